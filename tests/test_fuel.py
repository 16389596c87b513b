"""Point 9: how many calls, gos and drops there may be, and what is told where all is over."""

from tests.building import (
    A_BOX, A_FUN, A_REST, FAULT, WAYS, WayCase, add, box, call, catch, drop, fun, go, in_turn, last, let, look, name,
    num, otherwise, put, round_and_round, say, take, throw, when,
)
from whatremains.errors import BadFuel, BadProgram

# Each wants just one of what fuel is for.
ONES = (call(A_FUN, num(0)), go(A_REST, num(0)), drop(A_REST))


def many(times):
    """A program that wants so many calls and gos and drops, one after the other, and says 1 behind each."""
    return in_turn(*[say(add(ONES[k % 3], num(1))) for k in range(times)], num(7))


class Fuel(WayCase):
    def test_what_is_no_fuel_is_refused(self):
        for way in WAYS:
            for fuel in (-1, 2001, -2000, 10 ** 9, True, False):
                with self.assertRaises(BadFuel):
                    way(num(1), fuel)

    def test_a_program_that_is_none_is_refused_first(self):
        for way in WAYS:
            for fuel in (-1, 2001):
                with self.assertRaises(BadProgram):
                    way(name("a"), fuel)

    def test_the_bounds(self):
        for fuel in (0, 1, 1999, 2000):
            self.comes(say(num(5)), 5, [5], fuel=fuel)

    def test_no_fuel(self):
        for one in ONES:
            self.is_long(in_turn(say(num(5)), one, say(num(6))), [5], fuel=0)
        self.comes(catch(throw(num(1)), "a", "b", name("a")), 1, fuel=0)
        self.comes(fun("a", FAULT), "fun", fuel=0)

    def test_just_as_many_and_one_more(self):
        for times in (1, 2, 3, 4, 5, 6, 7):
            self.comes(many(times), 7, [1] * times, fuel=times)
            self.is_long(many(times), [1] * (times - 1), fuel=times - 1)
            self.comes(many(times), 7, [1] * times)

    def test_each_counts_one(self):
        for one in ONES:
            self.comes(in_turn(one, one, one, num(7)), 7, fuel=3)
            self.is_long(in_turn(one, say(num(1)), one, say(num(2)), one, num(7)), [1, 2], fuel=2)

    def test_nothing_else_counts(self):
        self.comes(in_turn(put(box(num(1)), num(2)), look(box(num(1))), say(num(1)), otherwise(FAULT, num(1)),
                           catch(throw(num(1)), "a", "b", name("a")), last(num(1), num(2)),
                           when(num(1), num(1), num(2)), take(num(1), num(2))), -1, [1], [(1, 0, 0)], fuel=0)

    def test_a_wrong_worth_is_a_fault_also_without_fuel(self):
        for e in (num(1), A_BOX):
            self.fails(call(e, num(1)), "fun", fuel=0)
            self.fails(go(e, num(1)), "rest", fuel=0)
            self.fails(drop(e), "rest", fuel=0)
        self.fails(call(A_FUN, FAULT), "told", fuel=0)
        self.fails(go(A_REST, FAULT), "told", fuel=0)
        self.fails(call(A_FUN, say(A_BOX)), "number", fuel=0)

    def test_wrong_ones_take_no_fuel(self):
        self.comes(in_turn(otherwise(call(num(1), num(1)), num(0)), otherwise(go(A_FUN, num(1)), num(0)),
                           otherwise(drop(num(1)), num(0)), call(A_FUN, num(6))), 6, fuel=1)

    def test_what_is_within_is_done_ahead(self):
        self.is_long(call(A_FUN, say(num(3))), [3], fuel=0)
        self.is_long(go(A_REST, say(num(3))), [3], fuel=0)
        self.is_long(call(A_FUN, call(A_FUN, say(num(3)))), [3], fuel=1 - 1)
        self.comes(call(A_FUN, call(A_FUN, say(num(3)))), 3, [3], fuel=2)

    def test_all_is_over_at_once(self):
        one = call(A_FUN, num(1))
        self.is_long(otherwise(one, say(num(1))), fuel=0)
        self.is_long(last(one, say(num(1))), ways=[(0, 0, 0)], fuel=0)
        self.is_long(last(num(1), in_turn(say(num(2)), one)), [2], [(1, 0, 0)], fuel=0)
        self.is_long(last(FAULT, in_turn(say(num(2)), one)), [2], [(0, 1, 0)], fuel=0)
        self.is_long(catch(one, "a", "b", say(num(1))), fuel=0)
        self.is_long(catch(last(throw(num(1)), say(num(2))), "a", "b", drop(name("b"))), ways=[(0, 0, 0)], fuel=0)
        self.is_long(catch(last(throw(num(1)), say(num(2))), "a", "b", go(name("b"), num(1))), ways=[(0, 0, 0)], fuel=0)
        self.is_long(catch(last(throw(num(1)), say(num(2))), "a", "b", in_turn(go(name("b"), num(1)), one)),
                     [2], [(1, 0, 0)], fuel=1)

    def test_over_in_a_deed_of_a_drop(self):
        body = last(last(throw(num(1)), in_turn(say(num(2)), call(A_FUN, num(1)), say(num(3)))), say(num(4)))
        program = catch(body, "a", "b", drop(name("b")))
        self.is_long(program, [2], [(0, 0, 0), (0, 0, 1)], fuel=1)
        self.comes(program, 0, [2, 3, 4], [(0, 0, 1), (0, 0, 1)], fuel=2)

    def test_a_program_that_never_ends(self):
        forever = let("a", box(num(0)), let("b", put(name("a"), fun("c", in_turn(
            say(name("c")), last(num(0), num(0)), call(look(name("a")), add(name("c"), num(1)))))),
            call(name("b"), num(0))))
        for fuel in (0, 1, 2, 500, 2000):
            self.is_long(forever, range(fuel), [(fuel, 0, 0)], fuel=fuel)

    def test_the_whole_fuel(self):
        self.comes(round_and_round(1999, num(0), num(7)), 7)
        self.is_long(round_and_round(2000, num(0), num(7)))
        rounds = round_and_round(999, catch(throw(num(1)), "d", "e", go(name("e"), num(1))), num(7))
        self.comes(rounds, 7, fuel=1999)
        self.is_long(rounds, fuel=1998)
        dropped = round_and_round(999, catch(last(throw(num(1)), num(1)), "d", "e", drop(name("e"))), num(7))
        self.comes(dropped, 7, ways=[(0, 0, 999)], fuel=1999)
        self.is_long(dropped, ways=[(0, 0, 999)], fuel=1998)

    def test_calls_within_one_another_up_to_the_whole_fuel(self):
        deep = let("a", box(num(0)), let("b", put(name("a"), fun("c", when(
            name("c"), add(num(1), last(call(look(name("a")), take(name("c"), num(1))), num(0))), num(0)))),
            call(name("b"), num(1999))))
        self.comes(deep, 1999, ways=[(1999, 0, 0)])
        self.is_long(deep, ways=[(0, 0, 0)], fuel=1999)
