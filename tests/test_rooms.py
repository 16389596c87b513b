"""Point 11: what run_rooms tells, and how many rooms were made, reckoned by hand."""

import unittest
from unittest import mock

from tests.building import (
    A_BOX, A_FUN, A_REST, FAULT, add, box, call, catch, drop, fun, go, in_turn, kept, last, less, let, look, name, num,
    otherwise, put, round_and_round, say, take, throw, when,
)
from tests.drawing import Lot
from whatremains import plain
from whatremains.errors import BadFuel, BadProgram
from whatremains.plain import run
from whatremains.rooms import run_rooms

THROW = throw(num(0))
A_CALL = call(A_FUN, num(1))

# Of each word: a program, and its rooms.
EACH_WORD = (
    (num(1), 0),
    (fun("a", name("a")), 0),
    (FAULT, 0),
    (add(num(1), num(2)), 2),
    (take(num(1), num(2)), 2),
    (less(num(1), num(2)), 2),
    (when(num(1), num(2), num(3)), 1),
    (when(num(0), num(2), num(3)), 1),
    (let("a", num(1), name("a")), 1),
    (call(A_FUN, num(1)), 2),
    (call(fun("a", say(num(1))), num(1)), 3),
    (say(num(1)), 1),
    (box(num(1)), 1),
    (look(box(num(1))), 2),
    (put(box(num(1)), num(2)), 3),
    (catch(num(1), "a", "b", num(2)), 0),
    (catch(throw(num(1)), "a", "b", name("a")), 1),
    (catch(throw(num(1)), "a", "b", say(name("a"))), 2),
    (catch(throw(num(1)), "a", "b", go(name("b"), num(2))), 3),
    (catch(throw(num(1)), "a", "b", drop(name("b"))), 2),
    (last(num(1), num(2)), 2),
    (last(FAULT, num(2)), 2),
    (catch(last(throw(num(1)), num(2)), "a", "b", drop(name("b"))), 4),
    (otherwise(num(1), num(2)), 1),
    (otherwise(FAULT, num(2)), 1),
)

# What is within is not begun behind a fault; what has come is not begun again.
WITH_FAULTS = (
    (throw(num(1)), 1),
    (add(FAULT, num(1)), 1),
    (add(num(1), FAULT), 2),
    (add(A_BOX, num(1)), 3),
    (call(FAULT, num(1)), 1),
    (call(num(1), num(1)), 2),
    (put(FAULT, num(1)), 1),
    (put(num(1), num(1)), 2),
    (go(FAULT, num(1)), 1),
    (go(num(1), num(1)), 2),
    (drop(num(1)), 1),
    (say(A_BOX), 2),
    (look(num(1)), 1),
    (when(FAULT, num(1), num(1)), 1),
    (when(A_FUN, num(1), num(1)), 1),
    (let("a", FAULT, num(1)), 1),
    (last(num(1), FAULT), 2),
    (last(last(FAULT, FAULT), num(1)), 4),
    (otherwise(FAULT, FAULT), 1),
    (otherwise(otherwise(FAULT, FAULT), say(num(1))), 3),
    (throw(FAULT), 1),
    (catch(FAULT, "a", "b", num(1)), 0),
    (catch(say(FAULT), "a", "b", num(1)), 1),
)


class Rooms(unittest.TestCase):
    def makes(self, program, rooms, fuel=2000):
        with self.subTest(program=program, fuel=fuel):
            self.assertEqual(run_rooms(program, fuel), (run(program, fuel), rooms))

    def test_kinds(self):
        for fuel in (0, 2000):
            told = run_rooms(say(A_CALL), fuel)
            self.assertIs(type(told), tuple)
            self.assertEqual([type(part) for part in told], [tuple, int])
            self.assertEqual([type(part) for part in told[0]], [list, tuple, list])

    def test_told_is_what_run_tells(self):
        program = in_turn(say(num(3)), last(say(num(4)), num(5)), fun("a", num(1)))
        self.assertEqual(run_rooms(program, 9), (([3, 4], ("worth", "fun"), [(1, 0, 0)]), 6))
        self.assertEqual(run_rooms(say(FAULT), 0), (([], ("fault", "told"), []), 1))
        self.assertEqual(run_rooms(say(A_CALL), 0), (([], ("long",), []), 3))

    def test_each_word(self):
        for program, rooms in EACH_WORD:
            self.makes(program, rooms)
            self.makes(add(program, num(1)), rooms + 1 + (run(program, 2000)[1][0] == "worth"))
            self.makes(catch(program, "g", "h", num(1)), rooms)

    def test_faults(self):
        for program, rooms in WITH_FAULTS:
            self.makes(program, rooms)
            self.makes(otherwise(program, num(1)), rooms + 1)

    def test_a_name_makes_none(self):
        self.makes(let("a", num(1), name("a")), 1)
        self.makes(let("a", num(1), add(name("a"), name("a"))), 3)

    def test_what_is_not_waited_for_makes_none(self):
        self.makes(let("a", num(1), let("b", num(2), name("a"))), 2)
        self.makes(when(num(1), when(num(0), num(1), num(2)), num(3)), 2)
        self.makes(catch(catch(num(1), "a", "b", num(2)), "a", "b", num(3)), 0)
        self.makes(call(fun("a", call(fun("b", num(1)), num(2))), num(3)), 4)
        self.makes(otherwise(FAULT, otherwise(FAULT, num(1))), 2)

    def test_a_go_makes_none_in_the_rest_but_for_what_is_begun_then(self):
        # The add's first part is begun once: one room; the throw, one; each go two, and each begins the second part.
        body = add(THROW, num(2))
        self.makes(catch(body, "a", "b", num(1)), 2)
        self.makes(catch(body, "a", "b", go(name("b"), num(1))), 2 + 2 + 1)
        self.makes(catch(body, "a", "b", add(go(name("b"), num(1)), go(name("b"), num(1)))), 2 + 2 * (1 + 2 + 1))
        self.makes(catch(in_turn(THROW, say(num(1)), num(2)), "a", "b", in_turn(
            go(name("b"), num(1)), go(name("b"), num(1)), go(name("b"), num(1)))), 2 + 2 + 3 * (2 + 2))

    def test_a_rest_gone_on_with_later(self):
        # let, the throw and its say; then twice a go, whose say is there already.
        program = let("c", kept(say(THROW)), add(go(name("c"), num(1)), go(name("c"), num(2))))
        self.makes(program, 3 + 2 * (1 + 2))

    def test_deeds(self):
        self.makes(last(last(num(1), num(2)), num(3)), 4)
        self.makes(last(num(1), last(num(2), num(3))), 4)
        self.makes(last(FAULT, say(num(3))), 3)
        # The throw in the deed is gone on with twice; the deed is begun once, and so is the body.
        self.makes(catch(last(num(7), THROW), "a", "b", add(go(name("b"), num(1)), go(name("b"), num(1)))), 3 + 2 * 3)

    def test_drops_of_several_lasts(self):
        body = last(last(last(THROW, num(2)), num(3)), say(num(4)))
        self.makes(catch(body, "a", "b", num(0)), 4)
        self.makes(catch(body, "a", "b", drop(name("b"))), 4 + 1 + 3 + 1)
        self.makes(catch(body, "a", "b", in_turn(drop(name("b")), drop(name("b")))), 4 + 1 + 2 * 5)
        self.makes(catch(body, "a", "b", in_turn(drop(name("b")), go(name("b"), num(1)))), 4 + 1 + 5 + 2 + 4)
        # The second deed comes to a fault, and the third one is not begun.
        broken = last(last(last(THROW, num(2)), FAULT), say(num(4)))
        self.makes(catch(broken, "a", "b", drop(name("b"))), 4 + 1 + 2)
        # No deed of a last that is under way no more, and none of one out of the catch.
        self.makes(catch(add(last(num(1), num(2)), THROW), "a", "b", drop(name("b"))), 2 + 2 + 1 + 1)
        self.makes(last(catch(THROW, "a", "b", drop(name("b"))), num(1)), 1 + 1 + 1 + 1)

    def test_a_deed_of_a_drop_that_is_gone_on_with_twice(self):
        dropped = catch(last(last(THROW, THROW), num(3)), "a", "b", drop(name("b")))
        twice = catch(dropped, "c", "d", add(go(name("d"), num(0)), go(name("d"), num(0))))
        # Two bodies and a throw; a drop and the first deed with its throw; twice a go and the second deed.
        self.makes(twice, 3 + 1 + 2 + 2 * (1 + 2 + 1))

    def test_hundreds_of_rounds(self):
        # Ahead of the first round: let and box, let and put's two, call's two. Each round: if, in_turn's let, what is
        # within that, call's two, look, take's two. The last one: if.
        for times in (1, 2, 300, 1999):
            self.makes(round_and_round(times, num(0), num(7)), 7 + 7 * times + 1)
            self.makes(round_and_round(times, say(num(0)), num(7)), 7 + 8 * times + 1)
            self.makes(round_and_round(times, last(num(0), num(0)), num(7)), 7 + 9 * times + 1)
        thrown = catch(round_and_round(500, THROW, num(7)), "d", "e", go(name("e"), num(1)))
        self.makes(thrown, 7 + 8 * 500 + 1 + 2 * 500)

    def test_fuel_that_ends_in_the_midst(self):
        rounds = round_and_round(300, num(0), num(7))
        # Each round ends with a call: all but the last if of the rounds that were begun are there.
        for fuel in (0, 1, 2, 150, 300):
            self.makes(rounds, 7 + 7 * fuel, fuel=fuel)
        self.makes(rounds, 7 + 7 * 300 + 1, fuel=301)
        self.makes(add(A_CALL, A_CALL), 3, fuel=0)
        self.makes(add(A_CALL, A_CALL), 6, fuel=1)
        body = last(last(THROW, A_CALL), num(1))
        self.makes(catch(body, "a", "b", drop(name("b"))), 4, fuel=0)
        self.makes(catch(body, "a", "b", drop(name("b"))), 4 + 1 + 2, fuel=1)
        self.makes(catch(body, "a", "b", drop(name("b"))), 4 + 1 + 2 + 1, fuel=2)
        self.makes(catch(say(THROW), "a", "b", go(name("b"), num(1))), 4, fuel=0)

    def test_what_is_refused(self):
        with self.assertRaises(BadProgram) as caught:
            run_rooms(add(num(1), name("a")), -1)
        self.assertEqual((caught.exception.at, caught.exception.why), (2, "open"))
        for fuel in (-1, 2001):
            with self.assertRaises(BadFuel):
                run_rooms(num(1), fuel)

    def test_told_again_the_same(self):
        program = catch(last(say(THROW), num(2)), "a", "b", in_turn(go(name("b"), num(5)), go(name("b"), num(6))))
        told, rooms = run_rooms(program, 100)
        told[0].clear()
        told[2].append(1)
        self.assertEqual(run_rooms(program, 100), (([5, 6], ("worth", 6), [(2, 0, 0)]), rooms))

    def test_values_that_are_kept_share_no_rooms(self):
        self.makes(in_turn(A_REST, A_BOX, A_FUN), 2 + 1 + 1)


class AsThePlainWayWaits(unittest.TestCase):
    """All that waits in the plain way but catches waits for what is begun in a room."""

    def count(self, kind):
        made = kind.__init__

        def counting(waiting, *more):
            self.waited += 1
            made(waiting, *more)

        return mock.patch.object(kind, "__init__", counting)

    def test_drawn_programs(self):
        kinds = (plain.Within, plain.Choice, plain.Naming, plain.Last, plain.Deed, plain.Dropping, plain.Else)
        patches = [self.count(kind) for kind in kinds]
        for patch in patches:
            patch.start()
            self.addCleanup(patch.stop)
        lot = Lot(11)
        for program in lot.programs(1500, 200):
            fuel = lot.fuel()
            self.waited = 0
            told = run(program, fuel)
            self.assertEqual(run_rooms(program, fuel), (told, self.waited), program)
