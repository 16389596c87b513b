"""Steps: a program laid out as one row of steps, each a word and what it needs.

A step finds the worths that it works on upon a pile and leaves there what it
comes to. Numbers of steps are places in the row, which is done from 0 on.
"""


class Handling:
    """What a catch needs: its number, its names, and the steps at which its handler and what is behind it begin."""

    def __init__(self, number, names, handler, after):
        self.number = number
        self.names = names
        self.handler = handler
        self.after = after


def gap(steps):
    """The place of a step that is to be laid once it is known where others lie."""
    steps.append(None)
    return len(steps) - 1


def lay(steps, part):
    """Lay the steps of a part."""
    if part.word in LAYERS:
        layer = LAYERS[part.word]
        layer(steps, part)
        return
    for inner in part.within:
        lay(steps, inner)
    steps.append(("finish", part))


def lay_num(steps, part):
    """Lay the step of a number."""
    steps.append(("num", part.number))


def lay_name(steps, part):
    """Lay the step of a name."""
    steps.append(("name", part.names[0]))


def lay_fault(steps, part):
    """Lay the step of a fault."""
    steps.append(("fault", "told"))


def lay_if(steps, part):
    """Lay what the if hangs on, the one, and the other."""
    lay(steps, part.within[0])
    branch = gap(steps)
    lay(steps, part.within[1])
    jump = gap(steps)
    steps[branch] = ("branch", len(steps))
    lay(steps, part.within[2])
    steps[jump] = ("jump", len(steps))


def lay_let(steps, part):
    """Lay what the name is to be bound to, and the body."""
    lay(steps, part.within[0])
    bind = gap(steps)
    lay(steps, part.within[1])
    steps.append(("back", None))
    steps[bind] = ("bind", (part.names[0], len(steps)))


def lay_fun(steps, part):
    """Lay a body, which is passed over where the fun stands."""
    fun = gap(steps)
    lay(steps, part.within[0])
    steps.append(("back", None))
    steps[fun] = ("fun", (part.names[0], len(steps)))


def lay_catch(steps, part):
    """Lay the body, and the handler, which is passed over unless something is thrown."""
    stand = gap(steps)
    lay(steps, part.within[0])
    steps.append(("leave", None))
    handler = len(steps)
    lay(steps, part.within[1])
    steps.append(("back", None))
    steps[stand] = ("stand", Handling(part.turn, part.names, handler, len(steps)))


def lay_last(steps, part):
    """Lay the body and the deed."""
    under = gap(steps)
    lay(steps, part.within[0])
    steps.append(("deed", None))
    steps[under] = ("under", (part, len(steps)))
    lay(steps, part.within[1])
    steps.append(("done", None))


def lay_else(steps, part):
    """Lay the body, and the other, which is passed over unless there is a fault."""
    spare = gap(steps)
    lay(steps, part.within[0])
    past = gap(steps)
    steps[spare] = ("spare", len(steps))
    lay(steps, part.within[1])
    steps[past] = ("past", len(steps))


LAYERS = {
    "num": lay_num,
    "name": lay_name,
    "if": lay_if,
    "let": lay_let,
    "fun": lay_fun,
    "catch": lay_catch,
    "last": lay_last,
    "else": lay_else,
    "fault": lay_fault,
}


def steps_of(tree):
    """The steps of a whole program."""
    steps = []
    lay(steps, tree.top)
    steps.append(("end", None))
    return steps
