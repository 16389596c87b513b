"""Programs: what one is, and the tree of its parts."""

from whatremains.errors import BadProgram

MOST_PARTS = 200
MOST_AROUND = 40
MOST_NUMBER = 1000000
NAMES = ("a", "b", "c", "d", "e", "f", "g", "h")

# What stands behind each word: n for a number, x for a name, e for an expression.
SHAPES = {
    "num": "n",
    "name": "x",
    "add": "ee",
    "take": "ee",
    "less": "ee",
    "if": "eee",
    "let": "xee",
    "fun": "xe",
    "call": "ee",
    "say": "e",
    "box": "e",
    "look": "e",
    "put": "ee",
    "catch": "exxe",
    "throw": "e",
    "go": "ee",
    "drop": "e",
    "last": "ee",
    "else": "ee",
    "fault": "",
}


class Part:
    """One expression of a program; `turn` is its number among those with the same word."""

    def __init__(self, word, turn, number, names, within):
        self.word = word
        self.turn = turn
        self.number = number
        self.names = names
        self.within = within


class Tree:
    """A whole program: its outermost part, how many parts it has, and how many with each word."""

    def __init__(self, top, size, turns):
        self.top = top
        self.size = size
        self.turns = turns


class Reader:
    """Goes through what may be a program, part by part, as they are numbered."""

    def __init__(self):
        self.size = 0
        self.turns = {}

    def part_of(self, thing, around, bound):
        """The part that this is, within `around` others and where the names `bound` are bound."""
        at = self.size
        why = why_not(thing, at, around, bound)
        if why is not None:
            raise BadProgram(at, why)
        self.size = at + 1
        word = thing[0]
        turn = self.turns.get(word, 0)
        self.turns[word] = turn + 1
        number = thing[1] if word == "num" else None
        names = standing(thing, "x")
        within = self.parts_of(standing(thing, "e"), around + 1, bound, names)
        return Part(word, turn, number, names, within)

    def parts_of(self, things, around, bound, names):
        """The parts that these are; in the last one the names of the part around them are bound."""
        found = []
        for k, thing in enumerate(things):
            here = (*bound, *names) if k == len(things) - 1 else bound
            found.append(self.part_of(thing, around, here))
        return found


def why_not(thing, at, around, bound):
    """The first reason why this cannot be part `at`, or None."""
    if at >= MOST_PARTS:
        return "many"
    if around > MOST_AROUND:
        return "deep"
    if not has_shape(thing):
        return "shape"
    word = thing[0]
    names = standing(thing, "x")
    if word == "num" and abs(thing[1]) > MOST_NUMBER:
        return "number"
    if not all([name in NAMES for name in names]) or len(set(names)) < len(names):
        return "name"
    if word == "name" and names[0] not in bound:
        return "open"
    return None


def has_shape(thing):
    """Whether this is a word and behind it as many things, of such kinds, as the word asks for."""
    if not isinstance(thing, tuple) or len(thing) == 0:
        return False
    word = thing[0]
    if not isinstance(word, str) or word not in SHAPES:
        return False
    shape = SHAPES[word]
    if len(thing) != len(shape) + 1:
        return False
    return all([fits(place, held) for place, held in zip(shape, thing[1:])])


def fits(place, held):
    """Whether this is of the kind that stands in such a place; parts are looked at on their own."""
    if place == "n":
        return is_whole(held)
    if place == "x":
        return isinstance(held, str)
    return True


def is_whole(held):
    """Whether this is a whole number."""
    return isinstance(held, int) and not isinstance(held, bool)


def standing(thing, place):
    """All that stands in such places of an expression, in turn."""
    return [held for kind, held in zip(SHAPES[thing[0]], thing[1:]) if kind == place]


def tree_of(program):
    """The tree of a program; what is none is refused."""
    reader = Reader()
    top = reader.part_of(program, 0, ())
    return Tree(top, reader.size, reader.turns)


def parts(program):
    """How many parts a program has."""
    return tree_of(program).size
