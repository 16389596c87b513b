"""Worths: numbers, funs, rests and boxes, and what the plain expressions make of them."""

MOST_WORTH = 1000000000000

# The kind that the first worth of an expression must be of, which is also the fault if it is not.
WANTED = {
    "if": "number",
    "say": "number",
    "look": "box",
    "put": "box",
    "call": "fun",
    "go": "rest",
    "drop": "rest",
}
REACHED = ("add", "take", "less")


class Fun:
    """A body, in the form in which a way of running keeps it, its name, and the names that were bound around it."""

    def __init__(self, body, name, bound):
        self.body = body
        self.name = name
        self.bound = bound


class Rest:
    """What was still to do up to a catch, in the form in which a way of running keeps it."""

    def __init__(self, kept):
        self.kept = kept


class Box:
    """The one thing that changes: it holds a worth."""

    def __init__(self, held):
        self.held = held


def kind_of(worth):
    """What kind of worth this is."""
    if isinstance(worth, int):
        return "number"
    if isinstance(worth, Fun):
        return "fun"
    if isinstance(worth, Rest):
        return "rest"
    return "box"


def binding(bound, name, worth):
    """The names that are bound, and one more, or one anew."""
    return {**bound, name: worth}


def reached(word, one, other):
    """What add, take and less tell of two numbers, however great."""
    if word == "add":
        return one + other
    if word == "take":
        return one - other
    return 1 if one < other else 0


def fault_of(word, worths):
    """The fault of an expression with these worths within it, or None."""
    if word in REACHED:
        if kind_of(worths[0]) != "number" or kind_of(worths[1]) != "number":
            return "number"
        return "number" if abs(reached(word, worths[0], worths[1])) > MOST_WORTH else None
    wanted = WANTED.get(word)
    if wanted is None or kind_of(worths[0]) == wanted:
        return None
    return wanted


def worth_of(word, worths, said):
    """What an expression that only needs its worths, which are right, comes to."""
    first = worths[0]
    if word in REACHED:
        return reached(word, first, worths[1])
    if word == "say":
        said.append(first)
        return first
    if word == "box":
        return Box(first)
    if word == "put":
        first.held = worths[1]
    return first.held
