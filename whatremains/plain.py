"""The plain way: a row of things that wait, the innermost one last."""

from whatremains.programs import tree_of
from whatremains.tales import BY_DROP, BY_FAULT, BY_WORTH, tale_of
from whatremains.worths import Fun, Rest, binding, fault_of, worth_of


class Row:
    """A run: what waits, and either the part to be done now or what the last one came to."""

    def __init__(self, top, tale):
        self.tale = tale
        self.waits = []
        # Where in the row the catches stand: a throw cuts it at the last one.
        self.catches = []
        self.part = top
        self.bound = {}
        self.worth = None
        self.fault = None

    def do(self, part, bound):
        """Do a part next, with these names bound."""
        self.part = part
        self.bound = bound

    def come(self, worth):
        """Come to a worth."""
        self.part = None
        self.worth = worth
        self.fault = None

    def fall(self, word):
        """Come to a fault."""
        self.part = None
        self.worth = None
        self.fault = word

    def step(self):
        """Begin a part, or hand what has come to the innermost that waits, or end."""
        if self.part is not None:
            begin = BEGINS[self.part.word]
            begin(self, self.part, self.bound)
        elif len(self.waits) > 0:
            waiting = self.waits.pop()
            waiting.take(self)
        elif self.fault is not None:
            self.tale.end_in_fault(self.fault)
        else:
            self.tale.end_in_worth(self.worth)


# What waits is never changed, since rests share it: each time that it is to wait on it is made anew.


class Within:
    """Waits for what is within a part, in turn, and keeps the worths that have come."""

    def __init__(self, part, bound, worths):
        self.part = part
        self.bound = bound
        self.worths = worths

    def take(self, row):
        """Do the next within, or the part itself."""
        if row.fault is not None:
            return
        worths = [*self.worths, row.worth]
        if len(worths) < len(self.part.within):
            row.waits.append(Within(self.part, self.bound, worths))
            row.do(self.part.within[len(worths)], self.bound)
        else:
            finish(row, self.part.word, worths)


class Choice:
    """Waits for what an if hangs on."""

    def __init__(self, part, bound):
        self.part = part
        self.bound = bound

    def take(self, row):
        """Do the one or the other."""
        if row.fault is not None:
            return
        fault = fault_of("if", [row.worth])
        if fault is not None:
            row.fall(fault)
        else:
            row.do(self.part.within[2 if row.worth == 0 else 1], self.bound)


class Naming:
    """Waits for the worth of a let's name."""

    def __init__(self, part, bound):
        self.part = part
        self.bound = bound

    def take(self, row):
        """Do the body with the name bound."""
        if row.fault is None:
            row.do(self.part.within[1], binding(self.bound, self.part.names[0], row.worth))


class Catch:
    """Waits for a catch's body; while it does the catch stands."""

    def __init__(self, part, bound):
        self.part = part
        self.bound = bound

    def take(self, row):
        """Stand no more; what the body came to the catch does."""
        row.catches.pop()


class Last:
    """Waits for a last's body."""

    def __init__(self, part, bound):
        self.part = part
        self.bound = bound

    def take(self, row):
        """Do the deed, and keep what the last is to come to."""
        row.tale.begin_deed(self.part, BY_WORTH if row.fault is None else BY_FAULT)
        row.waits.append(Deed(row.worth, row.fault))
        row.do(self.part.within[1], self.bound)


class Deed:
    """Waits for a last's deed, with the worth or the fault that the last is to come to."""

    def __init__(self, worth, fault):
        self.worth = worth
        self.fault = fault

    def take(self, row):
        """Come to what was kept, unless the deed came to a fault."""
        if row.fault is not None:
            return
        if self.fault is not None:
            row.fall(self.fault)
        else:
            row.come(self.worth)


class Dropping:
    """Waits for one deed of a drop, with the lasts of the rest and the number of the next one."""

    def __init__(self, lasts, following):
        self.lasts = lasts
        self.following = following

    def take(self, row):
        """Do the next deed, unless this one came to a fault."""
        if row.fault is None:
            drop_from(row, self.lasts, self.following)


class Else:
    """Waits for an else's body."""

    def __init__(self, part, bound):
        self.part = part
        self.bound = bound

    def take(self, row):
        """Do the other if the body came to a fault."""
        if row.fault is not None:
            row.do(self.part.within[1], self.bound)


def finish(row, word, worths):
    """Do an expression whose worths are all there."""
    fault = fault_of(word, worths)
    if fault is not None:
        row.fall(fault)
    elif word in ENDS:
        end = ENDS[word]
        end(row, worths)
    else:
        row.come(worth_of(word, worths, row.tale.said))


def end_call(row, worths):
    """Do the body of a fun."""
    if row.tale.spend():
        fun = worths[0]
        row.do(fun.body, binding(fun.bound, fun.name, worths[1]))


def end_throw(row, worths):
    """Cut off all that waits up to the innermost catch, and do its handler instead."""
    if len(row.catches) == 0:
        row.fall("throw")
        return
    cut = row.catches.pop()
    kept = row.waits[cut:]
    del row.waits[cut:]
    catch = kept[0]
    x, k = catch.part.names
    row.do(catch.part.within[1], binding(binding(catch.bound, x, worths[0]), k, Rest(kept)))


def end_go(row, worths):
    """Let what a rest keeps wait again, its catch the outermost."""
    if row.tale.spend():
        row.catches.append(len(row.waits))
        row.waits.extend(worths[0].kept)
        row.come(worths[1])


def end_drop(row, worths):
    """Do the deeds of a rest's lasts."""
    if row.tale.spend():
        drop_from(row, [waiting for waiting in reversed(worths[0].kept) if isinstance(waiting, Last)], 0)


def drop_from(row, lasts, at):
    """Do the deeds of these lasts from one on."""
    if at == len(lasts):
        row.come(0)
        return
    last = lasts[at]
    row.tale.begin_deed(last.part, BY_DROP)
    row.waits.append(Dropping(lasts, at + 1))
    row.do(last.part.within[1], last.bound)


ENDS = {"call": end_call, "throw": end_throw, "go": end_go, "drop": end_drop}


def begin_num(row, part, bound):
    """Come to the number."""
    row.come(part.number)


def begin_name(row, part, bound):
    """Come to what the name is bound to."""
    row.come(bound[part.names[0]])


def begin_fun(row, part, bound):
    """Come to a fun that keeps the names that are bound."""
    row.come(Fun(part.within[0], part.names[0], bound))


def begin_fault(row, part, bound):
    """Come to the fault."""
    row.fall("told")


def begin_within(row, part, bound):
    """Do what is within first."""
    row.waits.append(Within(part, bound, []))
    row.do(part.within[0], bound)


def begin_if(row, part, bound):
    """Do what the if hangs on."""
    row.waits.append(Choice(part, bound))
    row.do(part.within[0], bound)


def begin_let(row, part, bound):
    """Do what the name is to be bound to."""
    row.waits.append(Naming(part, bound))
    row.do(part.within[0], bound)


def begin_catch(row, part, bound):
    """Do the body, in which the catch stands."""
    row.catches.append(len(row.waits))
    row.waits.append(Catch(part, bound))
    row.do(part.within[0], bound)


def begin_last(row, part, bound):
    """Do the body."""
    row.waits.append(Last(part, bound))
    row.do(part.within[0], bound)


def begin_else(row, part, bound):
    """Do the body."""
    row.waits.append(Else(part, bound))
    row.do(part.within[0], bound)


BEGINS = {
    "num": begin_num,
    "name": begin_name,
    "add": begin_within,
    "take": begin_within,
    "less": begin_within,
    "if": begin_if,
    "let": begin_let,
    "fun": begin_fun,
    "call": begin_within,
    "say": begin_within,
    "box": begin_within,
    "look": begin_within,
    "put": begin_within,
    "catch": begin_catch,
    "throw": begin_within,
    "go": begin_within,
    "drop": begin_within,
    "last": begin_last,
    "else": begin_else,
    "fault": begin_fault,
}


def run(program, fuel):
    """What is told of a program that is run with so much fuel: (said, end, ways)."""
    tree = tree_of(program)
    tale = tale_of(tree, fuel)
    row = Row(tree.top, tale)
    while tale.end is None:
        row.step()
    return tale.told()
