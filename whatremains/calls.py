"""Plain calls: each part is done by a call that is handed what comes next.

A call that has a worth or a fault to hand on gives back the next call
instead of making it, so that calls never lie deep within one another.
"""

from whatremains.programs import tree_of
from whatremains.tales import BY_DROP, BY_FAULT, BY_WORTH, tale_of
from whatremains.worths import Fun, Rest, binding, fault_of, worth_of


class Next:
    """What comes next, up to the innermost catch.

    `then` is called with a worth and `fail` with a fault, both with the catch
    that stands around then: a rest that is gone on with gets another one.
    `lasts` is the innermost last whose body is under way, or None.
    """

    def __init__(self, then, fail, lasts):
        self.then = then
        self.fail = fail
        self.lasts = lasts


class Standing:
    """A catch that stands: its part and names, what comes next behind it, and the one around it."""

    def __init__(self, part, bound, after, around):
        self.part = part
        self.bound = bound
        self.after = after
        self.around = around


class Under:
    """A last whose body is under way, and the next one outward."""

    def __init__(self, part, bound, outward):
        self.part = part
        self.bound = bound
        self.outward = outward


class Kept:
    """What a rest keeps: what came next, and the catch that took it."""

    def __init__(self, after, part, bound):
        self.after = after
        self.part = part
        self.bound = bound


def come(after, worth, around):
    """The next call when something came to a worth."""
    then = after.then
    return lambda: then(worth, around)


def fall(after, word, around):
    """The next call when something came to a fault."""
    fail = after.fail
    return lambda: fail(word, around)


def do(tale, part, bound, after, around):
    """Do a part, within a catch or None, with these names bound; the next call is given back."""
    begin = BEGINS[part.word]
    return begin(tale, part, bound, after, around)


def do_num(tale, part, bound, after, around):
    """Come to the number."""
    return come(after, part.number, around)


def do_name(tale, part, bound, after, around):
    """Come to what the name is bound to."""
    return come(after, bound[part.names[0]], around)


def do_fun(tale, part, bound, after, around):
    """Come to a fun that keeps the names that are bound."""
    return come(after, Fun(part.within[0], part.names[0], bound), around)


def do_fault(tale, part, bound, after, around):
    """Come to the fault."""
    return fall(after, "told", around)


def do_one(tale, part, bound, after, around):
    """Do the one thing within, then the part itself."""

    def then(worth, outer):
        return finish(tale, part.word, [worth], after, outer)

    return do(tale, part.within[0], bound, Next(then, after.fail, after.lasts), around)


def do_two(tale, part, bound, after, around):
    """Do the one and the other within, then the part itself."""

    def then(one, outer):
        def then_other(other, outermore):
            return finish(tale, part.word, [one, other], after, outermore)

        return do(tale, part.within[1], bound, Next(then_other, after.fail, after.lasts), outer)

    return do(tale, part.within[0], bound, Next(then, after.fail, after.lasts), around)


def do_if(tale, part, bound, after, around):
    """Do what it hangs on, then the one or the other."""

    def then(worth, outer):
        fault = fault_of("if", [worth])
        if fault is not None:
            return fall(after, fault, outer)
        return do(tale, part.within[2 if worth == 0 else 1], bound, after, outer)

    return do(tale, part.within[0], bound, Next(then, after.fail, after.lasts), around)


def do_let(tale, part, bound, after, around):
    """Do what the name is to be bound to, then the body."""

    def then(worth, outer):
        return do(tale, part.within[1], binding(bound, part.names[0], worth), after, outer)

    return do(tale, part.within[0], bound, Next(then, after.fail, after.lasts), around)


def do_catch(tale, part, bound, after, around):
    """Do the body, in which the catch stands."""
    return do(tale, part.within[0], bound, Next(leave, leave_in_fault, None), Standing(part, bound, after, around))


def leave(worth, standing):
    """What comes behind a catch whose body came to a worth."""
    return come(standing.after, worth, standing.around)


def leave_in_fault(word, standing):
    """What comes behind a catch whose body came to a fault."""
    return fall(standing.after, word, standing.around)


def do_last(tale, part, bound, after, around):
    """Do the body, then the deed, then come to what the body came to."""

    def then(worth, outer):
        def then_come(ignored, outermore):
            return come(after, worth, outermore)

        tale.begin_deed(part, BY_WORTH)
        return do(tale, part.within[1], bound, Next(then_come, after.fail, after.lasts), outer)

    def fail(word, outer):
        def then_fall(ignored, outermore):
            return fall(after, word, outermore)

        tale.begin_deed(part, BY_FAULT)
        return do(tale, part.within[1], bound, Next(then_fall, after.fail, after.lasts), outer)

    return do(tale, part.within[0], bound, Next(then, fail, Under(part, bound, after.lasts)), around)


def do_else(tale, part, bound, after, around):
    """Do the body, then the other if that came to a fault."""

    def fail(word, outer):
        return do(tale, part.within[1], bound, after, outer)

    return do(tale, part.within[0], bound, Next(after.then, fail, after.lasts), around)


def finish(tale, word, worths, after, around):
    """Do an expression whose worths are all there."""
    fault = fault_of(word, worths)
    if fault is not None:
        return fall(after, fault, around)
    if word == "throw":
        return throw(tale, worths[0], after, around)
    if word not in SPENDING:
        return come(after, worth_of(word, worths, tale.said), around)
    if not tale.spend():
        return None
    spending = SPENDING[word]
    return spending(tale, worths, after, around)


def throw(tale, worth, after, around):
    """Do the handler of the innermost catch, and hand it what comes next as a rest."""
    if around is None:
        return fall(after, "throw", around)
    x, k = around.part.names
    rest = Rest(Kept(after, around.part, around.bound))
    bound = binding(binding(around.bound, x, worth), k, rest)
    return do(tale, around.part.within[1], bound, around.after, around.around)


def call(tale, worths, after, around):
    """Do the body of a fun."""
    fun = worths[0]
    return do(tale, fun.body, binding(fun.bound, fun.name, worths[1]), after, around)


def go(tale, worths, after, around):
    """Call what a rest keeps, within its catch, behind which comes what comes next here."""
    kept = worths[0].kept
    return come(kept.after, worths[1], Standing(kept.part, kept.bound, after, around))


def drop(tale, worths, after, around):
    """Do the deeds of a rest's lasts."""
    return drop_from(tale, worths[0].kept.after.lasts, after, around)


def drop_from(tale, last, after, around):
    """Do the deed of this last and those of all outward of it."""
    if last is None:
        return come(after, 0, around)

    def then(ignored, outer):
        return drop_from(tale, last.outward, after, outer)

    tale.begin_deed(last.part, BY_DROP)
    return do(tale, last.part.within[1], last.bound, Next(then, after.fail, after.lasts), around)


SPENDING = {"call": call, "go": go, "drop": drop}

BEGINS = {
    "num": do_num,
    "name": do_name,
    "add": do_two,
    "take": do_two,
    "less": do_two,
    "if": do_if,
    "let": do_let,
    "fun": do_fun,
    "call": do_two,
    "say": do_one,
    "box": do_one,
    "look": do_one,
    "put": do_two,
    "catch": do_catch,
    "throw": do_one,
    "go": do_two,
    "drop": do_one,
    "last": do_last,
    "else": do_else,
    "fault": do_fault,
}


def run_calls(program, fuel):
    """What is told of a program that is run with so much fuel: (said, end, ways)."""
    tree = tree_of(program)
    tale = tale_of(tree, fuel)

    def then(worth, around):
        tale.end_in_worth(worth)

    def fail(word, around):
        tale.end_in_fault(word)

    following = do(tale, tree.top, {}, Next(then, fail, None), None)
    while following is not None:
        following = following()
    return tale.told()
