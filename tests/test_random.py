"""Programs drawn by lot, always the same ones: both ways tell the same of them."""

import random
import unittest
from collections import Counter

from tests.building import round_and_round
from whatremains.calls import run_calls
from whatremains.plain import run
from whatremains.programs import MOST_PARTS, parts

HOW_MANY = 6000
# Words that make rests meet each other stand more often.
WORDS = ("add", "take", "less", "if", "let", "let", "let", "fun", "call", "call", "say", "say", "box", "look", "put",
         "catch", "catch", "catch", "throw", "throw", "throw", "throw", "go", "go", "go", "go", "drop", "drop",
         "last", "last", "last", "else", "else", "fault")


class Lot:
    """Draws programs; it knows of each name whether it is likely a fun, a rest, a box or a number."""

    def __init__(self, seed):
        self.lot = random.Random(seed)

    def pick(self, bound, kind):
        """A name that is likely of this kind, or None."""
        fitting = [x for x in bound if bound[x] == kind]
        return ("name", self.lot.choice(fitting)) if fitting else None

    def leaf(self, bound):
        if bound and self.lot.random() < 0.6:
            return ("name", self.lot.choice(list(bound)))
        return ("num", self.lot.randint(-3, 3))

    def wanted(self, bound, kind, left):
        """Mostly something of this kind, so that not all comes to faults."""
        likely = self.pick(bound, kind)
        if likely is not None and self.lot.random() < 0.8:
            return likely
        if kind == "fun" and self.lot.random() < 0.7:
            x = self.name()
            return ("fun", x, self.draw({**bound, x: "number"}, left - 1))
        if kind == "box" and self.lot.random() < 0.7:
            return ("box", self.draw(bound, left - 1))
        if kind == "rest" and self.lot.random() < 0.8:
            return ("catch", self.body(bound, left - 1), "g", "h", ("name", "h"))
        return self.draw(bound, left)

    def name(self):
        return self.lot.choice("abcdefgh")

    def draw(self, bound, left):
        if left <= 0 or self.lot.random() < 0.08:
            return self.leaf(bound)
        word = self.lot.choice(WORDS)
        if word == "fault":
            return ("fault",) if self.lot.random() < 0.4 else self.leaf(bound)
        if word == "let":
            x = self.name()
            kind = self.lot.choice(("number", "number", "box", "fun", "rest"))
            return ("let", x, self.wanted(bound, kind, left - 1), self.draw({**bound, x: kind}, left - 1))
        if word == "fun":
            x = self.name()
            return ("fun", x, self.draw({**bound, x: "number"}, left - 1))
        if word == "catch":
            x, k = self.lot.sample("abcdefgh", 2)
            return ("catch", self.body(bound, left - 1), x, k, self.draw({**bound, x: "number", k: "rest"}, left - 1))
        if word in ("call", "look", "put", "go", "drop"):
            first = self.wanted(bound, {"call": "fun", "go": "rest", "drop": "rest"}.get(word, "box"), left - 1)
            return (word, first) if word in ("look", "drop") else (word, first, self.draw(bound, left - 1))
        count = {"say": 1, "box": 1, "throw": 1, "if": 3}.get(word, 2)
        return (word, *[self.draw(bound, left - 1) for _ in range(count)])

    def body(self, bound, left):
        """What stands in a catch: often with a throw that is sure, and lasts around it."""
        if self.lot.random() < 0.3:
            return self.draw(bound, left)
        e = ("throw", self.draw(bound, left - 2))
        for _ in range(self.lot.randint(0, 3)):
            e = self.around(e, bound, left)
        return e

    def around(self, e, bound, left):
        word = self.lot.choice(("last", "last", "add", "let", "say", "else"))
        if word == "say":
            return ("say", e)
        if word == "let":
            return ("let", self.lot.choice("abc"), e, self.draw(bound, left - 2))
        return (word, e, self.draw(bound, left - 2))

    def program(self):
        """A program, sometimes gone round in many times."""
        if self.lot.random() < 0.7:
            return self.draw({}, self.lot.randint(3, 9))
        bound = {"a": "box", "c": "number"}
        body = self.draw(bound, self.lot.randint(2, 7))
        if self.lot.random() < 0.5:
            body = ("else", body, ("say", ("name", "c")))
        rounds = round_and_round(self.lot.randint(1, 40), body, ("look", ("name", "a")))
        if self.lot.random() < 0.5:
            return rounds
        return ("catch", rounds, "d", "e", self.draw({"d": "number", "e": "rest"}, 4))


def size(program):
    return 1 + sum(size(part) for part in program[1:] if isinstance(part, tuple))


class Random(unittest.TestCase):
    def test_both_ways_tell_the_same(self):
        lot = Lot(2026)
        ends = Counter()
        ways = [0, 0, 0]
        for _ in range(HOW_MANY):
            program = lot.program()
            if size(program) > MOST_PARTS:
                continue
            self.assertEqual(parts(program), size(program))
            fuel = lot.lot.choice((0, 1, 2, 5, 20, 100, 300))
            told = run(program, fuel)
            self.assertEqual(told, run_calls(program, fuel), program)
            ends[told[1][0]] += 1
            for left in told[2]:
                ways = [one + other for one, other in zip(ways, left)]
        # So that the lot does not go bad unseen: each end, and each way to leave a last, comes up often.
        self.assertEqual(sorted(ends), ["fault", "long", "worth"])
        self.assertGreater(min(ends.values()), 100)
        self.assertGreater(min(ways), 100)
