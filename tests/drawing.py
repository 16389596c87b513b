"""Programs drawn by lot, always the same ones of the same seed."""

import random

from tests.building import round_and_round

# Words that make rests meet each other stand more often.
WORDS = ("add", "take", "less", "if", "let", "let", "let", "fun", "call", "call", "say", "say", "box", "look", "put",
         "catch", "catch", "catch", "throw", "throw", "throw", "throw", "go", "go", "go", "go", "drop", "drop",
         "last", "last", "last", "else", "else", "fault")


def size(program):
    """How many parts there are, counted without the program's help."""
    return 1 + sum(size(part) for part in program[1:] if isinstance(part, tuple))


class Lot:
    """Draws programs; it knows of each name whether it is likely a fun, a rest, a box or a number."""

    def __init__(self, seed):
        self.lot = random.Random(seed)

    def pick(self, bound, kind):
        """A name that is likely of this kind, or None."""
        fitting = [x for x in bound if bound[x] == kind]
        return ("name", self.lot.choice(fitting)) if fitting else None

    def leaf(self, bound):
        if bound and self.lot.random() < 0.6:
            return ("name", self.lot.choice(list(bound)))
        return ("num", self.lot.randint(-3, 3))

    def wanted(self, bound, kind, left):
        """Mostly something of this kind, so that not all comes to faults."""
        likely = self.pick(bound, kind)
        if likely is not None and self.lot.random() < 0.8:
            return likely
        if kind == "fun" and self.lot.random() < 0.7:
            x = self.name()
            return ("fun", x, self.draw({**bound, x: "number"}, left - 1))
        if kind == "box" and self.lot.random() < 0.7:
            return ("box", self.draw(bound, left - 1))
        if kind == "rest" and self.lot.random() < 0.8:
            return ("catch", self.body(bound, left - 1), "g", "h", ("name", "h"))
        return self.draw(bound, left)

    def name(self):
        return self.lot.choice("abcdefgh")

    def draw(self, bound, left):
        if left <= 0 or self.lot.random() < 0.08:
            return self.leaf(bound)
        word = self.lot.choice(WORDS)
        if word == "fault":
            return ("fault",) if self.lot.random() < 0.4 else self.leaf(bound)
        if word == "let":
            x = self.name()
            kind = self.lot.choice(("number", "number", "box", "fun", "rest"))
            return ("let", x, self.wanted(bound, kind, left - 1), self.draw({**bound, x: kind}, left - 1))
        if word == "fun":
            x = self.name()
            return ("fun", x, self.draw({**bound, x: "number"}, left - 1))
        if word == "catch":
            return self.catch(self.body(bound, left - 1), bound, left)
        if word in ("call", "look", "put", "go", "drop"):
            first = self.wanted(bound, {"call": "fun", "go": "rest", "drop": "rest"}.get(word, "box"), left - 1)
            return (word, first) if word in ("look", "drop") else (word, first, self.draw(bound, left - 1))
        count = {"say": 1, "box": 1, "throw": 1, "if": 3}.get(word, 2)
        return (word, *[self.draw(bound, left - 1) for _ in range(count)])

    def catch(self, body, bound, left):
        """A catch, half of them with a handler that is likely to have a paper."""
        x, k = self.lot.sample("abcdefgh", 2)
        if self.lot.random() < 0.5:
            return ("catch", body, x, k, self.draw({**bound, x: "number", k: "rest"}, left - 1))
        others = {**{y: kind for y, kind in bound.items() if y != k}, x: "number"}
        return ("catch", body, x, k, self.once(k, others, left - 1))

    def once(self, k, others, left):
        """An expression that mostly goes on with k once, or drops it, and else does not have it."""
        way = self.lot.randint(0, 11)
        if left <= 0 or way <= 2:
            return ("go", ("name", k), self.quiet(others))
        if way == 3:
            return ("drop", ("name", k))
        if way == 4:
            return ("if", self.quiet(others), self.once(k, others, left - 1), self.once(k, others, left - 1))
        if way == 5:
            y = self.lot.choice([y for y in "abcdefgh" if y != k])
            return ("let", y, self.once(k, others, left - 1), self.draw({**others, y: "number"}, left - 2))
        if way == 6:
            x, other = self.lot.sample([y for y in "abcdefgh" if y != k], 2)
            handler = self.draw({**others, x: "number", other: "rest"}, left - 2)
            return ("catch", self.once(k, others, left - 1), x, other, handler)
        if way == 7:
            return (self.lot.choice(("add", "last", "else", "put")), self.quiet(others), self.once(k, others, left - 1))
        if way == 8:
            return (self.lot.choice(("say", "box", "look", "throw")), self.once(k, others, left - 1))
        if way == 9:
            return self.draw(others, left)
        return (self.lot.choice(("last", "else", "add")), self.once(k, others, left - 1), self.draw(others, left - 2))

    def quiet(self, bound):
        """A small expression that does not throw."""
        return self.lot.choice((self.leaf(bound), self.leaf(bound), ("say", self.leaf(bound)),
                                ("add", self.leaf(bound), self.leaf(bound))))

    def body(self, bound, left):
        """What stands in a catch: often with a throw that is sure, and lasts around it."""
        if self.lot.random() < 0.3:
            return self.draw(bound, left)
        e = ("throw", self.draw(bound, left - 2))
        for _ in range(self.lot.randint(0, 3)):
            e = self.around(e, bound, left)
        return e

    def around(self, e, bound, left):
        word = self.lot.choice(("last", "last", "add", "let", "say", "else"))
        if word == "say":
            return ("say", e)
        if word == "let":
            return ("let", self.lot.choice("abc"), e, self.draw(bound, left - 2))
        return (word, e, self.draw(bound, left - 2))

    def program(self):
        """A program, sometimes gone round in many times."""
        if self.lot.random() < 0.7:
            return self.draw({}, self.lot.randint(3, 9))
        bound = {"a": "box", "c": "number"}
        body = self.draw(bound, self.lot.randint(2, 7))
        if self.lot.random() < 0.5:
            body = ("else", body, ("say", ("name", "c")))
        rounds = round_and_round(self.lot.randint(1, 40), body, ("look", ("name", "a")))
        if self.lot.random() < 0.5:
            return rounds
        return self.catch(rounds, {}, 5)

    def programs(self, count, most):
        """So many drawn programs, but none of more than so many parts."""
        for _ in range(count):
            program = self.program()
            if size(program) <= most:
                yield program

    def fuel(self):
        return self.lot.choice((0, 1, 2, 5, 20, 100, 300, 2000))
