"""What the tests share: short names for expressions, and a case that asks all ways of running."""

import unittest

from whatremains.calls import run_calls
from whatremains.errors import BadProgram
from whatremains.papers import papers
from whatremains.piles import run_piles
from whatremains.plain import run
from whatremains.rooms import run_rooms

FAULT = ("fault",)


def all_papers(program):
    """All papers that a program has; of what is no program, none."""
    try:
        return papers(program)
    except BadProgram:
        return []


def no_papers(program):
    """None for each catch of a program."""
    return [None for _ in all_papers(program)]


def run_in_rooms(program, fuel):
    """What run_rooms tells that run tells, too."""
    return run_rooms(program, fuel)[0]


def run_on_copied_piles(program, fuel):
    """What run_piles tells, with no papers, that run tells, too."""
    return run_piles(program, fuel, no_papers(program))[0]


def run_on_moved_piles(program, fuel):
    """What run_piles tells, with all papers, that run tells, too."""
    return run_piles(program, fuel, all_papers(program))[0]


WAYS = (run, run_calls, run_in_rooms, run_on_copied_piles, run_on_moved_piles)


def num(n):
    return ("num", n)


def name(x):
    return ("name", x)


def add(one, other):
    return ("add", one, other)


def take(one, other):
    return ("take", one, other)


def less(one, other):
    return ("less", one, other)


def when(e, one, other):
    return ("if", e, one, other)


def let(x, e, body):
    return ("let", x, e, body)


def fun(x, body):
    return ("fun", x, body)


def call(one, other):
    return ("call", one, other)


def say(e):
    return ("say", e)


def box(e):
    return ("box", e)


def look(e):
    return ("look", e)


def put(one, other):
    return ("put", one, other)


def catch(body, x, k, handler):
    return ("catch", body, x, k, handler)


def throw(e):
    return ("throw", e)


def go(one, other):
    return ("go", one, other)


def drop(e):
    return ("drop", e)


def last(body, deed):
    return ("last", body, deed)


def otherwise(body, other):
    return ("else", body, other)


def in_turn(first, *more):
    """Do all of these, one behind the other, and come to the last; binds h."""
    if not more:
        return first
    return let("h", first, in_turn(*more))


def round_and_round(times, body, done):
    """Do body so many times with c counting down to 1, then done: times + 1 calls; binds a, b, c, h."""
    again = in_turn(body, call(look(name("a")), take(name("c"), num(1))))
    return let("a", box(num(0)),
               let("b", put(name("a"), fun("c", when(name("c"), again, done))),
                   call(name("b"), num(times))))


def kept(body):
    """The rest of a body that throws."""
    return catch(body, "g", "h", name("h"))


A_FUN = fun("a", name("a"))
A_REST = kept(throw(num(1)))
A_BOX = box(num(1))


class WayCase(unittest.TestCase):
    """A case that asks each way of running, and expects the same of all."""

    def tells(self, program, said, end, ways=(), fuel=2000):
        for way in WAYS:
            with self.subTest(way=way.__name__):
                self.assertEqual(way(program, fuel), (list(said), end, list(ways)))

    def comes(self, program, worth, said=(), ways=(), fuel=2000):
        self.tells(program, said, ("worth", worth), ways, fuel)

    def fails(self, program, word, said=(), ways=(), fuel=2000):
        self.tells(program, said, ("fault", word), ways, fuel)

    def is_long(self, program, said=(), ways=(), fuel=2000):
        self.tells(program, said, ("long",), ways, fuel)
