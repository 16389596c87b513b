"""Papers: what shows of a catch's handler how often, and when, it uses the rest."""

from whatremains.errors import BadPapers
from whatremains.programs import tree_of

QUIET = "quiet"
FREE = "free"
USED = "used"
# The later a word stands, the greater it is.
RISING = (QUIET, FREE, USED)


def behind(word, other):
    """The word of two expressions behind one another."""
    if word == QUIET:
        return other
    return word if other in (QUIET, FREE) else None


def in_turn(words):
    """The word of all these behind one another."""
    found = QUIET
    for word in words:
        found = behind(found, word)
    return found


def throwing(words):
    """The word of an expression that does what is within and then may throw."""
    word = in_turn(words)
    return FREE if word == QUIET else word


def of_fun(words):
    """The word of a fun, whose body is not done where it stands."""
    return QUIET if words[0] in (QUIET, FREE) else None


def of_if(words):
    """The word of an if, of which one or the other is done."""
    if words[1] is None or words[2] is None:
        return None
    return behind(words[0], RISING[max(RISING.index(words[1]), RISING.index(words[2]))])


def of_catch(words):
    """The word of a catch, whose handler may be done often."""
    body, handler = words
    if handler not in (QUIET, FREE):
        return None
    return FREE if body == QUIET else body


RULES = {
    "call": throwing,
    "throw": throwing,
    "go": throwing,
    "drop": throwing,
    "fun": of_fun,
    "if": of_if,
    "catch": of_catch,
}


def names_rest(part, k):
    """Whether this is the name of the rest; k is None where there is none."""
    return part.word == "name" and part.names[0] == k


def word_of(part, k, words):
    """The word of an expression, those within it having these words."""
    if names_rest(part, k):
        return None
    if part.word in ("go", "drop") and names_rest(part.within[0], k):
        return USED if in_turn(words[1:]) == QUIET else None
    rule = RULES.get(part.word, in_turn)
    return rule(words)


def paper_of(part, k):
    """The paper of an expression, k being the rest's name, or None where there is none."""
    found = []
    for at, inner in enumerate(part.within):
        # Names are bound in what stands last within the part that binds them.
        anew = k in part.names and at == len(part.within) - 1
        found.append(paper_of(inner, None if anew else k))
    return word_of(part, k, [paper[0] for paper in found]), tuple(found)


def catches_within(part):
    """All catches within a part and the part itself if it is one, as they stand."""
    found = [part] if part.word == "catch" else []
    for inner in part.within:
        found.extend(catches_within(inner))
    return found


def handler_paper(catch):
    """The paper of a catch's handler, or None if it shows nothing."""
    paper = paper_of(catch.within[1], catch.names[1])
    return None if paper[0] is None else paper


def papers_of(tree):
    """For each catch of a program, as they stand, the paper of its handler or None."""
    return [handler_paper(catch) for catch in catches_within(tree.top)]


def papers(program):
    """For each catch of a program, as they stand, the paper of its handler or None."""
    return papers_of(tree_of(program))


def shows(program, number, paper):
    """Whether this is the paper of a catch's handler, and shows something."""
    found = papers(program)
    if number < 0 or number >= len(found):
        raise BadPapers(number)
    return paper is not None and paper == found[number]
