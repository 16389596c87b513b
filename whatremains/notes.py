"""Notes: programs written as texts, and texts read as programs."""

from whatremains.errors import BadText
from whatremains.programs import NAMES, SHAPES, tree_of

FIGURES = "0123456789"
MOST_FIGURES = 7
# Of these no word is written, but what stands behind it as it is.
AS_THEY_ARE = ("num", "name")


def written(program):
    """The text of a program."""
    tree_of(program)
    return " ".join(words_of(program))


def words_of(expression):
    """The words of an expression, in turn."""
    word = expression[0]
    words = [] if word in AS_THEY_ARE else [word]
    for place, held in zip(SHAPES[word], expression[1:]):
        if place == "e":
            words.extend(words_of(held))
        else:
            words.append(str(held))
    return words


def is_number(word):
    """Whether this word is a number as it is written."""
    figures = word.removeprefix("-")
    if len(figures) == 0 or len(figures) > MOST_FIGURES:
        return False
    if not all([sign in FIGURES for sign in figures]):
        return False
    return word == "0" or figures[0] != "0"


class Reading:
    """What was read of a text: expressions that wait for more, the innermost last, or the whole one.

    They wait in a row, since a text may have thousands within one another.
    """

    def __init__(self):
        self.waiting = []
        self.whole = None

    def takes(self, word):
        """Whether this word can stand next; if so it is read."""
        if self.whole is not None:
            return False
        if len(self.waiting) > 0 and place_of_next(self.waiting[-1]) == "x":
            return self.takes_name(word)
        if word in NAMES:
            self.put(("name", word))
        elif is_number(word):
            self.put(("num", int(word)))
        elif word in SHAPES and word not in AS_THEY_ARE:
            self.begin(word)
        else:
            return False
        return True

    def takes_name(self, word):
        """Whether this word is a name; if so it is read as one that is bound."""
        if word not in NAMES:
            return False
        self.put(word)
        return True

    def begin(self, word):
        """Let an expression wait for what stands behind its word, if anything does."""
        if len(SHAPES[word]) == 0:
            self.put((word,))
        else:
            self.waiting.append([word])

    def put(self, thing):
        """Put this where it stands, and likewise each expression that is whole by that."""
        while len(self.waiting) > 0:
            self.waiting[-1].append(thing)
            if not is_complete(self.waiting[-1]):
                return
            thing = tuple(self.waiting.pop())
        self.whole = thing


def place_of_next(started):
    """What stands next in an expression that has been started: x for a name, e for an expression."""
    return SHAPES[started[0]][len(started) - 1]


def is_complete(started):
    """Whether all that stands in an expression is there."""
    return len(started) == len(SHAPES[started[0]]) + 1


def read(text):
    """The program that a text is."""
    words = text.split(" ")
    reading = Reading()
    for place, word in enumerate(words):
        if not reading.takes(word):
            raise BadText(place)
    if reading.whole is None:
        raise BadText(len(words))
    tree_of(reading.whole)
    return reading.whole
