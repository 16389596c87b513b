"""Points 2 and 3: what a program is, its parts, and why others are refused."""

import unittest

from tests.building import (
    FAULT, WAYS, add, call, catch, drop, fun, go, last, less, let, look, name, num, otherwise, put, say, take, throw,
    when, box,
)
from whatremains.errors import BadFuel, BadProgram
from whatremains.programs import parts

ONE_OF_EACH = (
    (num(5), 1),
    (fun("a", name("a")), 2),
    (add(num(1), num(2)), 3),
    (take(num(1), num(2)), 3),
    (less(num(1), num(2)), 3),
    (when(num(1), num(2), num(3)), 4),
    (let("a", num(1), name("a")), 3),
    (call(num(1), num(2)), 3),
    (say(num(1)), 2),
    (box(num(1)), 2),
    (look(num(1)), 2),
    (put(num(1), num(2)), 3),
    (catch(num(1), "a", "b", add(name("a"), name("b"))), 5),
    (throw(num(1)), 2),
    (go(num(1), num(2)), 3),
    (drop(num(1)), 2),
    (last(num(1), num(2)), 3),
    (otherwise(num(1), num(2)), 3),
    (FAULT, 1),
)

MISSHAPEN = (
    "num", "", 5, None, True, [], ["num", 1], {}, b"num", 1.5,
    (), (5,), (("num",), 1), (None,), (True, 1), ([], 1),
    ("nam", "a"), ("Num", 1), ("", 1), ("num ", 1), ("else if", num(1), num(1)), ("part", num(1)),
    ("num",), ("num", 1, 2), ("name",), ("name", "a", "b"), ("add",), ("add", num(1)), ("add", num(1), num(1), num(1)),
    ("take", num(1)), ("less", num(1)), ("if", num(1), num(1)), ("let", "a", num(1)), ("fun", "a"),
    ("call", num(1)), ("say",), ("say", num(1), num(1)), ("box",), ("look", num(1), num(1)), ("put", num(1)),
    ("catch", num(1), "a", "b"), ("catch", num(1), "a", num(1)), ("throw",), ("go", num(1)), ("drop",),
    ("last", num(1)), ("else", num(1)), ("fault", num(1)), ("fault", "told"),
    ("num", "1"), ("num", None), ("num", True), ("num", False), ("num", ()), ("num", num(1)), ("num", 1.0),
    ("name", 1), ("name", None), ("name", ("a",)), ("name", name("a")), ("name", b"a"),
    ("let", 1, num(1), num(1)), ("let", name("a"), num(1), num(1)), ("let", num(1), "a", num(1)),
    ("fun", 1, num(1)), ("fun", ("a",), num(1)), ("fun", num(1), "a"),
    ("catch", num(1), 1, "b", num(1)), ("catch", num(1), "a", 1, num(1)), ("catch", "a", num(1), "b", num(1)),
    ("catch", num(1), "z", None, num(1)), ("let", (), FAULT, FAULT),
)

ILL_NAMED = (
    name("i"), name("z"), name("A"), name(""), name("ab"), name(" a"), name("a "), name("abcdefgh"), name("1"),
    let("i", num(1), num(1)), let("", num(1), num(1)), let("ab", num(1), num(1)),
    fun("x", num(1)), fun("H", num(1)),
    catch(num(1), "i", "b", num(1)), catch(num(1), "a", "i", num(1)), catch(num(1), "a", "a", num(1)),
    catch(num(1), "z", "z", num(1)),
)

OPEN = (
    (name("a"), 0),
    (name("h"), 0),
    (say(name("b")), 1),
    (let("a", name("a"), num(1)), 1),
    (let("a", num(1), name("b")), 2),
    (add(let("a", num(1), name("a")), name("a")), 4),
    (fun("a", name("b")), 1),
    (call(fun("a", name("a")), name("a")), 3),
    (catch(name("a"), "a", "b", num(1)), 1),
    (catch(name("b"), "a", "b", num(1)), 1),
    (catch(num(1), "a", "b", name("c")), 2),
    (add(catch(num(1), "a", "b", name("b")), name("b")), 4),
    (last(let("a", num(1), num(1)), name("a")), 4),
)


def within(around, e):
    """The expression, within so many others."""
    for _ in range(around):
        e = say(e)
    return e


def of_size(size):
    """A program of so many parts, an odd number, none of them deep: small sums in a row of sums."""
    row = [num(1)] * ((size + 1) // 2)
    while len(row) > 1:
        row = [add(*row[k:k + 2]) if k + 1 < len(row) else row[k] for k in range(0, len(row), 2)]
    return row[0]


class Programs(unittest.TestCase):
    def refused(self, program, at, why):
        asked = [("parts", lambda: parts(program))]
        asked += [(way.__name__, lambda way=way: way(program, 0)) for way in WAYS]
        asked += [(way.__name__ + " with no fuel", lambda way=way: way(program, -1)) for way in WAYS]
        for told, ask in asked:
            with self.subTest(asked=told, program=program):
                with self.assertRaises(BadProgram) as caught:
                    ask()
                self.assertEqual((caught.exception.at, caught.exception.why), (at, why))

    def taken(self, program, size):
        self.assertEqual(parts(program), size)
        for way in WAYS:
            self.assertEqual(len(way(program, 2000)), 3)

    def refused_everywhere(self, e, why):
        """Refused at the top, and at parts further in."""
        self.refused(e, 0, why)
        self.refused(say(e), 1, why)
        self.refused(add(e, FAULT), 1, why)
        self.refused(add(add(num(1), num(2)), e), 4, why)
        self.refused(when(num(1), num(2), e), 3, why)
        self.refused(let("c", e, num(1)), 1, why)
        self.refused(let("c", num(1), e), 2, why)
        self.refused(fun("c", e), 1, why)
        self.refused(catch(e, "c", "d", num(1)), 1, why)
        self.refused(catch(say(num(1)), "c", "d", e), 3, why)
        self.refused(within(40, e), 40, why)

    def test_each_expression_is_a_program_and_its_parts_are_counted(self):
        for program, size in ONE_OF_EACH:
            with self.subTest(program=program):
                self.taken(program, size)
                self.taken(let("e", program, otherwise(FAULT, program)), 3 + 2 * size)

    def test_every_name_may_be_bound(self):
        for x in "abcdefgh":
            self.taken(let(x, num(1), name(x)), 3)

    def test_names_are_bound_by_let_fun_and_catch_in_what_is_within_too(self):
        self.taken(let("a", num(1), let("b", name("a"), add(name("a"), name("b")))), 7)
        self.taken(fun("a", fun("b", add(name("a"), name("b")))), 5)
        self.taken(let("c", num(1), catch(name("c"), "a", "b", add(name("a"), name("c")))), 7)
        self.taken(let("a", num(1), let("a", name("a"), name("a"))), 5)

    def test_parts_are_counted_where_they_stand_also_the_same_ones(self):
        one = add(num(1), num(1))
        self.taken(add(one, one), 7)

    def test_shape(self):
        for e in MISSHAPEN:
            self.refused_everywhere(e, "shape")

    def test_number(self):
        for n in (1000001, -1000001, 10 ** 12, -10 ** 30):
            self.refused_everywhere(num(n), "number")
        for n in (1000000, -1000000, 0, -1):
            self.taken(num(n), 1)

    def test_name(self):
        for e in ILL_NAMED:
            self.refused_everywhere(e, "name")

    def test_open(self):
        for e, at in OPEN:
            self.refused(e, at, "open")
            self.refused(say(e), at + 1, "open")
            self.refused(add(num(1), e), at + 2, "open")
            self.refused(let("g", num(1), e), at + 2, "open")

    def test_many(self):
        self.taken(of_size(199), 199)
        self.taken(say(of_size(199)), 200)
        self.refused(of_size(201), 200, "many")
        self.refused(add(of_size(199), num(1)), 200, "many")
        self.taken(add(of_size(197), num(1)), 199)
        self.taken(add(of_size(197), say(num(1))), 200)
        self.refused(of_size(1001), 200, "many")

    def test_many_parts_that_are_one_and_the_same(self):
        e = num(1)
        for _ in range(30):
            e = add(e, e)
        self.refused(e, 200, "many")

    def test_deep(self):
        self.taken(within(40, num(1)), 41)
        self.refused(within(41, num(1)), 41, "deep")
        self.refused(within(100, num(1)), 41, "deep")
        self.refused(add(num(1), within(40, num(1))), 42, "deep")
        self.taken(add(within(39, num(1)), within(39, num(1))), 81)
        self.refused(add(within(39, num(1)), within(40, num(1))), 81, "deep")
        deepest = num(1)
        for _ in range(5000):
            deepest = say(deepest)
        self.refused(deepest, 41, "deep")

    def test_first_part_counts(self):
        self.refused(add(num(1000001), name("z")), 1, "number")
        self.refused(add(name("z"), num(1000001)), 1, "name")
        self.refused(add(name("a"), 5), 1, "open")
        self.refused(add(say(5), within(50, num(1))), 2, "shape")
        self.refused(add(within(50, num(1)), 5), 41, "deep")
        self.refused(add(name("a"), of_size(401)), 1, "open")
        self.refused(add(of_size(401), name("a")), 200, "many")
        self.refused(let("z", 5, 5), 0, "name")
        self.refused(("add", 5, 5, 5), 0, "shape")
        self.refused(catch(5, "a", "a", 5), 0, "name")

    def test_first_reason_counts(self):
        self.refused(within(41, 5), 41, "deep")
        self.refused(within(41, num(1000001)), 41, "deep")
        self.refused(within(41, name("z")), 41, "deep")
        self.refused(within(41, name("a")), 41, "deep")
        self.refused(name("z"), 0, "name")
        self.refused(catch(num(1), "a", 5, num(1)), 0, "shape")
        self.refused(("let", "z", num(1)), 0, "shape")
        self.refused(("num", 1000001, 1), 0, "shape")
        self.refused(add(of_size(199), 5), 200, "many")
        self.refused(add(of_size(199), name("z")), 200, "many")
        self.refused(add(of_size(199), name("a")), 200, "many")
        self.refused(add(of_size(199), num(1000001)), 200, "many")

    def test_many_is_told_ahead_of_deep(self):
        # Part 200 is the first one, too, that stands within more than forty others.
        self.refused(add(of_size(159), within(41, num(1))), 200, "many")
        self.refused(add(of_size(157), within(41, num(1))), 198, "deep")

    def test_a_fuel_that_is_none_is_refused_behind_the_program(self):
        for way in WAYS:
            with self.assertRaises(BadProgram):
                way(name("a"), 2001)
            with self.assertRaises(BadFuel):
                way(num(1), 2001)
