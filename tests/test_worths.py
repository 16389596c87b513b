"""Points 4 and 5: worths and faults, and what each expression but those of rests and lasts comes to."""

from tests.building import (
    A_BOX, A_FUN, A_REST, FAULT, WayCase, add, box, call, catch, drop, fun, go, in_turn, last, less, let, look, name,
    num, otherwise, put, round_and_round, say, take, throw, when,
)

NO_NUMBERS = (A_FUN, A_REST, A_BOX)
MILLION = 1000000
MOST = 10 ** 12


def reach(worth):
    """A program that comes to a worth up to ten to the twelfth, by doubling and adding."""
    sign = -1 if worth < 0 else 1
    digits = []
    left = abs(worth)
    while left > MILLION:
        digits.append(left % 2)
        left //= 2
    e = num(sign * left)
    for digit in reversed(digits):
        e = let("d", e, add(add(name("d"), name("d")), num(sign * digit)))
    return e


class Numbers(WayCase):
    def test_num(self):
        for n in (0, 1, -1, 42, MILLION, -MILLION):
            self.comes(num(n), n)

    def test_add_take_less(self):
        for one, other in ((2, 3), (3, 2), (0, 0), (-5, 5), (5, -5), (-7, -7), (MILLION, MILLION)):
            self.comes(add(num(one), num(other)), one + other)
            self.comes(take(num(one), num(other)), one - other)
            self.comes(less(num(one), num(other)), 1 if one < other else 0)

    def test_add_take_less_of_others(self):
        for of in (add, take, less):
            for e in NO_NUMBERS:
                self.fails(of(e, num(1)), "number")
                self.fails(of(num(1), e), "number")
                self.fails(of(e, e), "number")

    def test_both_parts_are_done_ahead_of_the_fault(self):
        for of in (add, take, less):
            self.fails(of(A_FUN, say(num(4))), "number", [4])
            self.fails(of(A_FUN, FAULT), "told")
            self.fails(of(FAULT, say(num(4))), "told")
            self.comes(of(say(num(4)), say(num(3))), {add: 7, take: 1, less: 0}[of], [4, 3])

    def test_up_to_ten_to_the_twelfth(self):
        for worth in (MOST, MOST - 1, -MOST, 1 - MOST, 123456789012):
            self.comes(reach(worth), worth)
        self.comes(add(reach(MOST - 1), num(1)), MOST)
        self.comes(take(reach(1 - MOST), num(1)), -MOST)
        self.comes(take(reach(MOST), num(1)), MOST - 1)

    def test_beyond_ten_to_the_twelfth(self):
        self.fails(add(reach(MOST), num(1)), "number")
        self.fails(add(num(1), reach(MOST)), "number")
        self.fails(add(reach(-MOST), num(-1)), "number")
        self.fails(take(reach(-MOST), num(1)), "number")
        self.fails(take(reach(MOST), num(-1)), "number")
        self.fails(let("a", reach(MOST), add(name("a"), name("a"))), "number")
        self.fails(let("a", reach(MOST), add(say(name("a")), add(name("a"), num(1)))), "number", [MOST])
        self.comes(otherwise(add(reach(MOST), num(1)), num(7)), 7)

    def test_less_of_the_greatest(self):
        self.comes(let("a", reach(MOST), less(take(num(0), name("a")), name("a"))), 1)
        self.comes(let("a", reach(MOST), less(name("a"), take(num(0), name("a")))), 0)

    def test_if(self):
        for n in (1, -1, 2, MILLION):
            self.comes(when(num(n), say(num(10)), say(num(20))), 10, [10])
        self.comes(when(num(0), say(num(10)), say(num(20))), 20, [20])
        self.comes(when(take(num(3), num(3)), num(1), num(2)), 2)
        self.comes(when(say(num(3)), say(num(4)), num(2)), 4, [3, 4])

    def test_if_of_others(self):
        for e in NO_NUMBERS:
            self.fails(when(e, say(num(1)), say(num(2))), "number")
        self.fails(when(FAULT, say(num(1)), say(num(2))), "told")
        self.fails(when(num(1), FAULT, num(2)), "told")
        self.fails(when(num(0), num(1), FAULT), "told")

    def test_say(self):
        self.comes(say(num(5)), 5, [5])
        self.comes(say(say(num(-5))), -5, [-5, -5])
        self.comes(in_turn(say(num(3)), say(num(1)), say(num(2)), num(0)), 0, [3, 1, 2])
        self.comes(say(reach(MOST)), MOST, [MOST])
        for e in NO_NUMBERS:
            self.fails(say(e), "number")
        self.fails(say(FAULT), "told")


class Names(WayCase):
    def test_let(self):
        self.comes(let("a", num(5), add(name("a"), name("a"))), 10)
        self.comes(let("a", say(num(5)), say(num(6))), 6, [5, 6])
        self.fails(let("a", FAULT, say(num(6))), "told")
        self.fails(let("a", num(1), FAULT), "told")
        for e, kind in zip(NO_NUMBERS, ("fun", "rest", "box")):
            self.comes(let("a", e, name("a")), kind)

    def test_names_bound_anew(self):
        self.comes(let("a", num(1), let("a", num(2), name("a"))), 2)
        self.comes(let("a", num(1), add(let("a", num(2), name("a")), name("a"))), 3)
        self.comes(let("a", num(1), let("a", add(name("a"), num(10)), name("a"))), 11)
        self.comes(let("a", num(1), call(fun("a", name("a")), add(name("a"), num(4)))), 5)
        self.comes(let("a", num(1), let("b", num(2), let("a", num(3), add(name("a"), name("b"))))), 5)
        self.comes(let("a", num(1), catch(throw(num(2)), "a", "b", name("a"))), 2)
        self.comes(let("a", num(1), catch(throw(num(2)), "b", "a", name("b"))), 2)
        self.comes(let("a", num(1), catch(throw(num(2)), "b", "a", name("a"))), "rest")
        self.comes(let("a", num(1), add(catch(throw(num(2)), "a", "b", name("a")), name("a"))), 3)
        self.comes(let("a", num(1), catch(add(throw(num(2)), name("a")), "a", "b", go(name("b"), num(9)))), 10)

    def test_fun_keeps_the_names_where_it_stands(self):
        self.comes(let("a", num(1), let("f", fun("b", add(name("a"), name("b"))),
                                        let("a", num(100), call(name("f"), name("a"))))), 101)
        adder = fun("a", fun("b", take(name("a"), name("b"))))
        self.comes(call(call(adder, num(9)), num(2)), 7)
        self.comes(let("f", call(adder, num(9)), let("g", call(adder, num(20)),
                                                     take(call(name("g"), num(2)), call(name("f"), num(3))))), 12)

    def test_fun_is_not_done_until_it_is_called(self):
        self.comes(fun("a", FAULT), "fun")
        self.comes(let("f", fun("a", say(num(1))), num(2)), 2)

    def test_call(self):
        self.comes(call(fun("a", add(name("a"), num(1))), num(4)), 5)
        self.comes(call(fun("a", num(1)), say(num(4))), 1, [4])
        self.comes(call(let("b", say(num(1)), A_FUN), say(num(2))), 2, [1, 2])
        self.comes(call(A_FUN, A_BOX), "box")
        self.fails(call(fun("a", FAULT), num(1)), "told")
        self.fails(call(FAULT, say(num(1))), "told")
        self.fails(call(A_FUN, FAULT), "told")

    def test_call_of_others(self):
        for e in (num(1), A_REST, A_BOX):
            self.fails(call(e, num(1)), "fun")
            self.fails(call(e, say(num(3))), "fun", [3])
            self.fails(call(e, FAULT), "told")

    def test_a_fun_that_calls_itself_through_a_box(self):
        self.comes(round_and_round(5, say(name("c")), num(7)), 7, [5, 4, 3, 2, 1])
        self.comes(round_and_round(1999, num(0), num(7)), 7)


class Boxes(WayCase):
    def test_box_and_look(self):
        self.comes(look(box(num(3))), 3)
        self.comes(look(box(A_FUN)), "fun")
        self.comes(look(look(box(box(num(3))))), 3)
        self.comes(box(num(1)), "box")
        self.comes(look(box(say(num(1)))), 1, [1])
        self.fails(box(FAULT), "told")
        self.fails(look(FAULT), "told")

    def test_put_comes_to_the_worth(self):
        self.comes(put(box(num(3)), num(4)), 4)
        self.comes(put(box(num(3)), A_FUN), "fun")
        self.comes(let("a", box(num(3)), in_turn(put(name("a"), num(4)), look(name("a")))), 4)
        self.comes(let("a", box(num(3)), add(put(name("a"), num(4)), add(look(name("a")), look(name("a"))))), 12)

    def test_both_parts_of_put_are_done_in_turn(self):
        self.comes(let("a", box(num(1)), put(name("a"), add(look(name("a")), num(1)))), 2)
        self.comes(put(let("a", say(num(1)), box(num(0))), say(num(2))), 2, [1, 2])
        self.fails(put(num(1), say(num(2))), "box", [2])
        self.fails(put(num(1), FAULT), "told")
        self.fails(put(FAULT, say(num(1))), "told")
        self.comes(let("a", box(num(1)), otherwise(put(name("a"), FAULT), look(name("a")))), 1)

    def test_look_and_put_of_others(self):
        for e in (num(1), A_FUN, A_REST):
            self.fails(look(e), "box")
            self.fails(put(e, num(1)), "box")
            self.fails(put(e, box(num(1))), "box")

    def test_there_is_one_of_each_box(self):
        self.comes(let("a", box(num(1)), let("b", name("a"), in_turn(put(name("b"), num(5)), look(name("a"))))), 5)
        self.comes(let("a", box(num(1)), let("b", box(num(1)), in_turn(put(name("b"), num(5)), look(name("a"))))), 1)
        self.comes(let("a", box(num(1)), in_turn(
            call(fun("b", put(name("b"), num(8))), name("a")), look(name("a")))), 8)
        self.comes(let("a", box(num(1)), in_turn(
            let("f", fun("b", put(name("a"), name("b"))), call(name("f"), num(6))), look(name("a")))), 6)

    def test_each_box_that_is_done_is_a_new_one(self):
        made = fun("a", box(num(0)))
        self.comes(let("f", made, let("a", call(name("f"), num(0)), let("b", call(name("f"), num(0)), in_turn(
            put(name("a"), num(5)), look(name("b")))))), 0)

    def test_boxes_are_shared_by_whoever_goes_on(self):
        counted = let("a", box(num(0)), catch(
            in_turn(throw(num(0)), put(name("a"), add(look(name("a")), num(1))), say(look(name("a")))),
            "g", "h", in_turn(go(name("h"), num(0)), num(1))))
        self.comes(counted, 1, [1])
        twice = let("a", box(num(0)), catch(
            in_turn(throw(num(0)), put(name("a"), add(look(name("a")), num(1))), say(look(name("a")))),
            "b", "c", add(go(name("c"), num(0)), go(name("c"), num(0)))))
        self.comes(twice, 3, [1, 2])

    def test_a_box_made_ahead_of_the_throw_is_shared_and_one_made_behind_is_not(self):
        ahead = catch(let("a", box(num(0)), in_turn(
            throw(num(0)), put(name("a"), add(look(name("a")), num(1))))),
            "b", "c", add(go(name("c"), num(0)), go(name("c"), num(0))))
        self.comes(ahead, 3)
        behind = catch(in_turn(throw(num(0)), let("a", box(num(0)), in_turn(
            put(name("a"), add(look(name("a")), num(1)))))),
            "b", "c", add(go(name("c"), num(0)), go(name("c"), num(0))))
        self.comes(behind, 2)


class Faults(WayCase):
    def test_fault(self):
        self.fails(FAULT, "told")
        for e in (say(FAULT), box(FAULT), look(FAULT), throw(FAULT), drop(FAULT), add(FAULT, say(num(1))),
                  go(FAULT, say(num(1))), catch(FAULT, "a", "b", say(num(1)))):
            self.fails(e, "told")

    def test_each_word(self):
        self.fails(say(A_FUN), "number")
        self.fails(call(num(1), num(1)), "fun")
        self.fails(look(num(1)), "box")
        self.fails(throw(num(1)), "throw")
        self.fails(go(num(1), num(1)), "rest")
        self.fails(drop(num(1)), "rest")
        self.fails(FAULT, "told")

    def test_else(self):
        self.comes(otherwise(say(num(1)), say(num(2))), 1, [1])
        self.comes(otherwise(FAULT, say(num(2))), 2, [2])
        self.fails(otherwise(FAULT, say(A_FUN)), "number")
        self.fails(otherwise(FAULT, FAULT), "told")
        self.comes(otherwise(add(say(num(1)), add(say(num(2)), look(num(0)))), num(3)), 3, [1, 2])
        self.comes(otherwise(otherwise(FAULT, FAULT), num(4)), 4)
        self.comes(add(otherwise(FAULT, num(1)), otherwise(look(num(1)), num(2))), 3)
        self.comes(otherwise(A_FUN, num(2)), "fun")

    def test_else_has_the_names_where_it_stands(self):
        self.comes(let("a", num(1), otherwise(let("a", num(2), FAULT), name("a"))), 1)

    def test_else_catches_each_word(self):
        for e in (say(A_FUN), call(num(1), num(1)), look(num(1)), throw(num(1)), go(num(1), num(1)), drop(num(1))):
            self.comes(otherwise(e, num(6)), 6)

    def test_a_fault_passes_funs_and_catches(self):
        self.comes(otherwise(call(fun("a", catch(FAULT, "b", "c", num(1))), num(1)), num(6)), 6)
        self.comes(last(otherwise(FAULT, num(1)), num(2)), 1, ways=[(1, 0, 0)])
