"""Points 1 to 10 over the whole program: fuel from 0 upward, the whole fuel, and lists that are changed."""

import copy
import unittest

from tests.building import (
    A_BOX, FAULT, WAYS, add, all_papers, box, call, catch, drop, fun, go, in_turn, last, let, look, name, no_papers,
    num, otherwise, put, round_and_round, say, take, throw, when,
)
from tests.drawing import Lot
from whatremains.calls import run_calls
from whatremains.errors import BadFuel, BadPapers, BadProgram, BadText
from whatremains.notes import read, written
from whatremains.papers import papers, shows
from whatremains.piles import run_piles
from whatremains.plain import run
from whatremains.programs import parts
from whatremains.rooms import run_rooms


def summed(times, body, done):
    """Like round_and_round, but each round waits for the next one, and a last around it."""
    again = add(last(call(look(name("a")), take(name("c"), num(1))), num(0)), body)
    return let("a", box(num(0)), let("b", put(name("a"), fun("c", when(name("c"), again, done))),
                                     call(name("b"), num(times))))


# Programs that go on up to the whole fuel of 2000, and over it.
LONG = (
    round_and_round(1999, say(name("c")), num(7)),
    round_and_round(2000, say(name("c")), num(7)),
    summed(1999, num(1), num(0)),
    summed(2000, num(1), num(0)),
    summed(1990, num(1), FAULT),
    catch(summed(1990, num(1), throw(num(1))), "d", "e", drop(name("e"))),
    catch(summed(1990, num(1), throw(num(1))), "d", "e", go(name("e"), num(2))),
    catch(summed(990, num(1), throw(num(1))), "d", "e", add(go(name("e"), num(2)), go(name("e"), num(3)))),
    catch(round_and_round(999, say(throw(name("c"))), num(7)), "d", "e", go(name("e"), name("d"))),
    catch(round_and_round(999, say(throw(name("c"))), num(7)), "d", "e",
          in_turn(num(1), go(name("e"), name("d")), FAULT)),
    catch(summed(990, throw(num(1)), num(0)), "d", "e", go(name("e"), num(4))),
    catch(summed(990, throw(num(1)), num(0)), "d", "e", otherwise(say(go(name("e"), A_BOX)), num(5))),
    round_and_round(660, catch(last(say(throw(num(1))), num(0)), "d", "e", in_turn(
        drop(name("e")), go(name("e"), num(6)))), num(1)),
    let("g", box(num(0)), in_turn(
        catch(in_turn(throw(num(0)), put(name("g"), add(look(name("g")), num(1)))), "e", "f",
              round_and_round(999, go(name("f"), num(0)), num(0))), look(name("g")))),
)

SMALL = (
    catch(last(in_turn(say(throw(num(1))), last(say(throw(num(2))), say(num(3)))), say(num(4))), "a", "b",
          in_turn(go(name("b"), num(5)), drop(name("b")), otherwise(go(name("b"), A_BOX), num(6)))),
    catch(last(last(throw(num(1)), in_turn(call(fun("c", say(name("c"))), num(2)), num(0))), say(num(3))), "a", "b",
          in_turn(drop(name("b")), go(name("b"), num(4)), call(fun("c", FAULT), num(1)))),
    round_and_round(40, otherwise(last(say(name("c")), FAULT), say(num(0))), num(1)),
    catch(round_and_round(20, say(throw(name("c"))), num(7)), "d", "e", in_turn(
        num(0), go(name("e"), name("d")))),
)


class Fuel(unittest.TestCase):
    def begins(self, less, more):
        """What is told with less fuel is the beginning of what is told with more."""
        self.assertEqual(less[0], more[0][:len(less[0])])
        for one, other in zip(less[2], more[2]):
            self.assertTrue(all(few <= many for few, many in zip(one, other)))
        if less[1] != ("long",):
            self.assertEqual(less, more)

    def test_from_0_upward_by_one(self):
        for program in (*SMALL, *Lot(18).programs(60, 200)):
            right = all_papers(program)
            none = no_papers(program)
            before = None
            for fuel in range(50):
                told = run(program, fuel)
                self.assertEqual(run_calls(program, fuel), told)
                counted = (run_rooms(program, fuel), run_piles(program, fuel, none), run_piles(program, fuel, right))
                self.assertEqual([tale for tale, _ in counted], [told] * 3)
                counts = [count for _, count in counted]
                if before is not None:
                    self.begins(before[0], told)
                    self.assertTrue(all(few <= many for few, many in zip(before[1], counts)))
                before = told, counts

    def test_up_to_the_whole_fuel(self):
        for program in LONG:
            for fuel in (2000, 1999, 1000, 1, 0):
                told = run(program, fuel)
                for way in WAYS:
                    self.assertEqual(way(program, fuel), told, (way.__name__, program))
            self.assertIn("long", [run(program, fuel)[1][0] for fuel in (1999, 900)])

    def test_ends_of_some_that_go_up_to_the_whole_fuel(self):
        self.assertEqual([run(program, 2000)[1] for program in LONG[:8]],
                         [("worth", 7), ("long",), ("worth", 1999), ("long",), ("fault", "told"), ("worth", 0),
                          ("worth", 1992), ("worth", 992 + 993)])


class HandedInFirst(unittest.TestCase):
    def test_refused_first(self):
        bad, good = name("a"), catch(num(1), "a", "b", num(2))
        for fuel in (-1, 0, 2000, 2001):
            for given in ([], [None], [("used", ())], [None, None]):
                with self.assertRaises(BadProgram):
                    run_piles(bad, fuel, given)
            for way in (run, run_calls, run_rooms):
                with self.assertRaises(BadProgram):
                    way(bad, fuel)
        for fuel in (-1, 2001):
            for given in ([], [None], [("used", ())], [None, None]):
                with self.assertRaises(BadFuel):
                    run_piles(good, fuel, given)
            for way in (run, run_calls, run_rooms):
                with self.assertRaises(BadFuel):
                    way(good, fuel)
        with self.assertRaises(BadPapers):
            run_piles(good, 2000, [])

    def test_refused_again_the_same_after_the_refusal_was_changed(self):
        asked = (
            (BadProgram, "at", 0, lambda: parts(name("a"))),
            (BadPapers, "number", 1, lambda: shows(num(1), 1, None)),
            (BadText, "place", 1, lambda: read("say")),
        )
        for error, field, worth, ask in asked:
            for _ in range(2):
                with self.assertRaises(error) as caught:
                    ask()
                self.assertEqual(getattr(caught.exception, field), worth)
                setattr(caught.exception, field, 77)


class Again(unittest.TestCase):
    def changed(self, told):
        """Change each list in what was told."""
        if isinstance(told, list):
            told.append(told[0] if told else 5)
            told.reverse()
        if isinstance(told, (list, tuple)):
            for held in told:
                self.changed(held)

    def asks(self, program):
        right = all_papers(program)
        yield lambda: parts(program)
        yield lambda: papers(program)
        yield lambda: written(program)
        yield lambda: read(written(program))
        yield lambda: run_piles(program, 90, right)
        yield lambda: run_piles(program, 90, no_papers(program))
        for way in (run, run_calls, run_rooms):
            yield lambda way=way: way(program, 90)

    def test_the_same_after_the_lists_that_were_told_were_changed(self):
        for program in (*SMALL, LONG[0], *Lot(19).programs(60, 200)):
            before = copy.deepcopy(program)
            asks = list(self.asks(program))
            first = [copy.deepcopy(ask()) for ask in asks]
            for ask in asks:
                self.changed(ask())
            self.assertEqual([ask() for ask in asks], first)
            self.assertEqual(program, before)
