"""Points 6 to 8: catches, throws, rests gone on with never, once, often and later, lasts and drops."""

from tests.building import (
    A_BOX, A_FUN, A_REST, FAULT, WayCase, add, box, call, catch, drop, fun, go, in_turn, kept, last, less, let, look,
    name, num, otherwise, put, round_and_round, say, take, throw, when,
)


def caught(body, handler):
    """A catch that binds a and b."""
    return catch(body, "a", "b", handler)


THROW = throw(num(0))

# An expression that throws, the worth that its throw then comes to, and what it comes to itself.
GONE_ON_WITHIN = (
    (THROW, num(4), 4),
    (add(THROW, num(2)), num(4), 6),
    (add(num(2), THROW), num(4), 6),
    (take(THROW, num(2)), num(4), 2),
    (take(num(2), THROW), num(4), -2),
    (less(THROW, num(2)), num(4), 0),
    (less(num(2), THROW), num(4), 1),
    (when(THROW, num(1), num(2)), num(4), 1),
    (when(THROW, num(1), num(2)), num(0), 2),
    (when(num(1), THROW, num(2)), num(4), 4),
    (when(num(0), num(2), THROW), num(4), 4),
    (let("d", THROW, add(name("d"), num(1))), num(4), 5),
    (let("d", num(3), add(THROW, name("d"))), num(4), 7),
    (call(THROW, num(7)), A_FUN, 7),
    (call(A_FUN, THROW), num(4), 4),
    (call(fun("d", add(THROW, name("d"))), num(3)), num(4), 7),
    (add(look(box(THROW)), num(1)), num(4), 5),
    (look(THROW), A_BOX, 1),
    (put(THROW, num(7)), A_BOX, 7),
    (put(A_BOX, THROW), num(4), 4),
    (add(catch(num(7), "d", "e", num(8)), THROW), num(4), 11),
    (catch(THROW, "d", "e", add(THROW, go(name("e"), num(10)))), num(4), 14),
    (go(THROW, num(7)), A_REST, 7),
    (go(A_REST, THROW), num(4), 4),
    (add(drop(THROW), num(3)), A_REST, 3),
    (otherwise(THROW, num(2)), num(4), 4),
    (otherwise(say(THROW), num(2)), A_BOX, 2),
    (otherwise(FAULT, THROW), num(4), 4),
)

# An expression that throws, and the worth for its throw with which it comes to a fault.
FAULTS_WITHIN = (
    (add(THROW, num(2)), A_BOX),
    (less(num(2), THROW), A_BOX),
    (when(THROW, num(1), num(2)), A_BOX),
    (let("d", THROW, FAULT), num(4)),
    (call(THROW, num(7)), num(4)),
    (say(THROW), A_BOX),
    (look(THROW), num(4)),
    (put(THROW, num(7)), num(4)),
    (go(THROW, num(7)), num(4)),
    (drop(THROW), num(4)),
    (otherwise(say(THROW), FAULT), A_BOX),
    (in_turn(THROW, FAULT), num(4)),
)


class Catches(WayCase):
    def test_a_body_that_does_not_throw(self):
        self.comes(caught(say(num(3)), say(num(4))), 3, [3])
        self.comes(caught(A_FUN, num(4)), "fun")
        self.fails(caught(FAULT, say(num(4))), "told")
        self.fails(caught(look(num(1)), say(num(4))), "box")

    def test_throw_binds_the_worth_and_the_rest(self):
        self.comes(caught(throw(num(3)), name("a")), 3)
        self.comes(caught(throw(A_FUN), call(name("a"), num(5))), 5)
        self.comes(caught(throw(num(3)), name("b")), "rest")
        self.comes(caught(throw(A_BOX), name("a")), "box")
        self.comes(caught(throw(say(num(3))), say(num(4))), 4, [3, 4])
        self.fails(caught(throw(FAULT), num(1)), "told")

    def test_what_is_behind_the_throw_is_not_done_by_itself(self):
        self.comes(caught(in_turn(say(num(1)), throw(num(2)), say(num(3))), name("a")), 2, [1])
        self.comes(add(num(10), caught(add(num(100), throw(num(2))), name("a"))), 12)

    def test_throw_that_nobody_catches(self):
        self.fails(throw(num(1)), "throw")
        self.fails(throw(say(num(1))), "throw", [1])
        self.fails(add(caught(num(1), num(2)), throw(num(1))), "throw")
        self.comes(otherwise(throw(num(1)), num(2)), 2)

    def test_the_innermost_catch_catches(self):
        self.comes(caught(add(num(100), caught(throw(num(1)), add(name("a"), num(10)))), num(0)), 111)
        self.comes(caught(caught(num(1), num(2)), num(3)), 1)
        self.comes(caught(add(caught(num(1), num(2)), throw(num(5))), name("a")), 5)

    def test_the_catch_stands_no_more_in_its_handler(self):
        self.fails(caught(throw(num(1)), throw(num(2))), "throw")
        self.comes(caught(caught(throw(num(1)), throw(add(name("a"), num(1)))), add(name("a"), num(10))), 12)
        self.comes(caught(otherwise(caught(throw(num(1)), throw(num(2))), num(3)), name("a")), 2)

    def test_a_fault_in_a_handler_is_the_catchs(self):
        self.fails(caught(throw(num(1)), FAULT), "told")
        self.comes(otherwise(caught(otherwise(throw(num(1)), num(2)), FAULT), num(3)), 3)

    def test_a_catch_stands_in_what_is_called_from_its_body(self):
        self.comes(let("f", fun("c", add(throw(name("c")), num(1))),
                       caught(call(name("f"), num(5)), add(name("a"), go(name("b"), num(20))))), 26)

    def test_a_catch_does_not_stand_for_a_fun_that_left_it(self):
        self.fails(call(caught(fun("c", throw(name("c"))), num(9)), num(1)), "throw")
        self.comes(caught(call(catch(fun("c", throw(name("c"))), "a", "b", num(9)), num(1)), say(name("a"))), 1, [1])

    def test_the_handler_has_the_names_where_the_catch_stands(self):
        self.comes(let("c", num(1), caught(let("c", num(2), throw(num(3))), name("c"))), 1)


class GoingOn(WayCase):
    def test_once(self):
        self.comes(caught(add(num(1), throw(num(2))), go(name("b"), num(10))), 11)
        self.comes(caught(add(num(1), throw(num(2))), add(num(100), go(name("b"), name("a")))), 103)
        self.comes(caught(in_turn(say(num(1)), say(throw(num(2))), num(3)), go(name("b"), num(7))), 3, [1, 7])
        self.comes(caught(call(throw(num(1)), num(4)), go(name("b"), fun("c", add(name("c"), num(1))))), 5)

    def test_never(self):
        self.comes(caught(in_turn(throw(num(2)), say(num(3))), num(4)), 4)

    def test_often_each_time_as_it_was(self):
        body = let("c", num(5), add(name("c"), add(throw(num(0)), throw(num(1)))))
        self.comes(caught(body, add(go(name("b"), name("a")), go(name("b"), num(10)))), 5 * 4 + 1 + 10 + 11 + 20)
        three = caught(say(throw(num(0))), in_turn(
            go(name("b"), num(1)), go(name("b"), num(2)), go(name("b"), num(3))))
        self.comes(three, 3, [1, 2, 3])

    def test_later_and_out_of_its_catch(self):
        self.comes(let("c", kept(add(throw(num(0)), num(1))), add(go(name("c"), num(10)), go(name("c"), num(20)))), 32)
        self.comes(let("c", box(num(0)), in_turn(
            caught(add(num(1), throw(num(2))), put(name("c"), name("b"))),
            say(num(9)), go(look(name("c")), num(5)))), 6, [9])
        self.comes(go(kept(throw(num(1))), num(5)), 5)

    def test_the_catch_stands_anew(self):
        body = add(throw(num(1)), throw(num(2)))
        self.comes(caught(body, go(name("b"), add(name("a"), num(10)))), 23)
        self.comes(let("c", kept(add(throw(num(0)), throw(num(1)))), go(name("c"), num(5))), "rest")
        self.comes(let("c", kept(add(throw(num(0)), throw(num(1)))), go(go(name("c"), num(5)), num(6))), 11)
        self.comes(let("c", kept(in_turn(throw(num(0)), throw(num(1)), throw(num(2)))),
                       go(go(go(name("c"), num(5)), num(6)), num(7))), 7)

    def test_the_catch_does_not_stand_where_the_go_stands(self):
        self.fails(let("c", kept(throw(num(0))), add(go(name("c"), num(1)), throw(num(2)))), "throw")
        self.fails(let("c", kept(throw(num(0))), go(name("c"), throw(num(2)))), "throw")

    def test_what_the_catch_comes_to_the_go_does(self):
        self.comes(caught(add(throw(num(1)), throw(num(2))), add(num(100), go(name("b"), name("a")))), 203)
        self.comes(let("c", caught(add(throw(num(1)), num(5)), name("b")), add(num(100), go(name("c"), num(2)))), 107)
        self.comes(let("c", catch(add(throw(num(1)), throw(num(5))), "a", "b", when(
            less(name("a"), num(5)), name("b"), num(40))), add(num(100), go(name("c"), num(2)))), 140)

    def test_a_fault_of_the_rest_is_the_gos(self):
        self.fails(let("c", kept(say(throw(num(0)))), go(name("c"), A_FUN)), "number")
        self.comes(let("c", kept(say(throw(num(0)))), otherwise(go(name("c"), A_FUN), num(4))), 4)
        self.comes(let("c", kept(otherwise(say(throw(num(0))), num(3))), go(name("c"), A_FUN)), 3)
        self.comes(caught(otherwise(say(throw(num(0))), num(3)), go(name("b"), A_BOX)), 3)

    def test_catches_around_the_go_stand_around_the_rest(self):
        # The rest's own catch takes its throw first; the handler's throw goes to the one around the go.
        rest = catch(add(throw(num(0)), throw(num(1))), "a", "b", when(
            less(num(0), name("a")), throw(num(77)), name("b")))
        self.comes(let("c", rest, catch(go(name("c"), num(5)), "d", "e", say(name("d")))), 77, [77])
        self.fails(let("c", rest, go(name("c"), num(5))), "throw")
        self.comes(let("c", rest, catch(add(num(1000), go(name("c"), num(5))), "d", "e", go(name("e"), num(3)))), 1003)

    def test_a_rest_holds_no_more_than_the_innermost_catch(self):
        inner = catch(add(num(1), throw(num(0))), "c", "d", throw(name("d")))
        self.comes(caught(add(num(10), inner), go(name("a"), num(5))), 6)
        self.comes(caught(add(num(10), inner), go(name("b"), num(5))), 15)
        self.comes(caught(add(num(10), inner), go(name("b"), go(name("a"), num(5)))), 16)

    def test_go_of_others(self):
        for e in (num(1), A_FUN, A_BOX):
            self.fails(go(e, num(1)), "rest")
            self.fails(go(e, say(num(3))), "rest", [3])
            self.fails(go(e, FAULT), "told")
        self.fails(go(FAULT, say(num(3))), "told")
        self.fails(go(A_REST, FAULT), "told")
        self.comes(go(let("c", say(num(1)), A_REST), say(num(2))), 2, [1, 2])

    def test_a_rest_that_is_handed_itself(self):
        body = let("c", throw(num(0)), when(look(name("e")), go(name("c"), name("c")), num(6)))
        counted = let("c", throw(num(0)), when(
            put(name("e"), take(look(name("e")), num(1))), go(name("c"), name("c")), num(6)))
        self.comes(let("e", box(num(3)), let("d", kept(counted), go(name("d"), name("d")))), 6)
        self.is_long(let("e", box(num(3)), let("d", kept(body), go(name("d"), name("d")))))

    def test_each_expression_goes_on_where_the_go_stands(self):
        for e, worth, comes in GONE_ON_WITHIN:
            with self.subTest(e=e):
                self.comes(let("c", kept(e), add(num(1000), go(name("c"), worth))), 1000 + comes)
                self.comes(caught(e, add(go(name("b"), worth), go(name("b"), worth))), 2 * comes)

    def test_each_fault_goes_on_where_the_go_stands(self):
        for e, worth in FAULTS_WITHIN:
            with self.subTest(e=e):
                self.comes(let("c", kept(e), add(num(1000), otherwise(go(name("c"), worth), num(6)))), 1006)

    def test_an_arm_for_each_choice(self):
        # Each throw asks for 0 or 1; the handler takes both, the sums are said in turn.
        body = say(add(add(throw(num(0)), throw(num(0))), throw(num(0))))
        both = caught(body, in_turn(go(name("b"), num(0)), go(name("b"), num(1))))
        self.comes(both, 3, [0, 1, 1, 2, 1, 2, 2, 3])

    def test_hundreds_of_times(self):
        rounds = caught(round_and_round_thrown(300), go(name("b"), add(name("a"), num(1))))
        self.comes(rounds, 7, [n + 1 for n in range(300, 0, -1)])
        rest_of_many = let("g", box(num(0)), in_turn(
            catch(in_turn(throw(num(0)), put(name("g"), add(look(name("g")), num(1)))), "e", "f",
                  round_and_round(500, go(name("f"), num(0)), num(0))),
            look(name("g"))))
        self.comes(rest_of_many, 500)

    def test_a_deep_rest_gone_on_with_often(self):
        # A sum of 400 calls within one another, the innermost of which throws; gone on with three times.
        deep = let("a", box(num(0)), let("b", put(name("a"), fun("c", when(
            name("c"), add(num(1), call(look(name("a")), take(name("c"), num(1)))), throw(num(0))))),
            call(name("b"), num(400))))
        self.comes(catch(deep, "d", "e", add(go(name("e"), num(0)), add(go(name("e"), num(1)), go(name("e"), num(2))))),
                   1203)


def round_and_round_thrown(times):
    """Says what the throw of each round comes to, and comes to 7."""
    return round_and_round(times, say(throw(name("c"))), num(7))


class Lasts(WayCase):
    def test_left_by_worth(self):
        self.comes(last(say(num(1)), say(num(2))), 1, [1, 2], [(1, 0, 0)])
        self.comes(add(last(num(1), num(5)), num(1)), 2, ways=[(1, 0, 0)])
        self.comes(last(A_FUN, num(5)), "fun", ways=[(1, 0, 0)])

    def test_left_by_fault(self):
        self.fails(last(FAULT, say(num(2))), "told", [2], [(0, 1, 0)])
        self.fails(last(look(num(1)), say(num(2))), "box", [2], [(0, 1, 0)])
        self.comes(otherwise(last(FAULT, say(num(2))), num(3)), 3, [2], [(0, 1, 0)])

    def test_a_fault_of_the_deed_is_the_lasts(self):
        self.fails(last(num(1), FAULT), "told", ways=[(1, 0, 0)])
        self.fails(last(look(num(1)), FAULT), "told", ways=[(0, 1, 0)])
        self.fails(last(FAULT, look(num(1))), "box", ways=[(0, 1, 0)])
        self.fails(last(FAULT, otherwise(FAULT, num(1))), "told", ways=[(0, 1, 0)])

    def test_the_deed_has_the_names_where_the_last_stands(self):
        self.comes(let("a", num(1), last(let("a", num(2), say(name("a"))), say(name("a")))), 2, [2, 1], [(1, 0, 0)])
        self.fails(let("a", num(1), last(let("a", num(2), FAULT), say(name("a")))), "told", [1], [(0, 1, 0)])

    def test_lasts_within_one_another(self):
        program = last(last(say(num(1)), say(num(2))), say(num(3)))
        self.comes(program, 1, [1, 2, 3], [(1, 0, 0), (1, 0, 0)])
        self.fails(last(last(say(num(1)), FAULT), say(num(3))), "told", [1, 3], [(0, 1, 0), (1, 0, 0)])
        self.fails(last(last(FAULT, say(num(2))), say(num(3))), "told", [2, 3], [(0, 1, 0), (0, 1, 0)])
        self.comes(last(num(1), last(say(num(2)), say(num(3)))), 1, [2, 3], [(1, 0, 0), (1, 0, 0)])

    def test_a_throw_does_not_leave_the_last(self):
        self.comes(caught(last(throw(num(1)), say(num(2))), num(5)), 5, ways=[(0, 0, 0)])
        self.comes(caught(last(throw(num(1)), say(num(2))), name("b")), "rest", ways=[(0, 0, 0)])

    def test_gone_on_with_once_and_often(self):
        self.comes(caught(last(throw(num(1)), say(num(2))), go(name("b"), num(6))), 6, [2], [(1, 0, 0)])
        self.comes(caught(last(throw(num(1)), say(num(2))), add(go(name("b"), num(6)), go(name("b"), num(7)))),
                   13, [2, 2], [(2, 0, 0)])
        self.fails(caught(last(say(throw(num(1))), say(num(2))), go(name("b"), A_BOX)), "number", [2], [(0, 1, 0)])
        self.comes(caught(last(say(throw(num(1))), say(num(2))),
                          add(otherwise(go(name("b"), A_BOX), num(100)), go(name("b"), num(9)))),
                   109, [2, 9, 2], [(1, 1, 0)])

    def test_gone_on_with_where_the_go_stands(self):
        self.comes(let("c", kept(last(throw(num(0)), num(2))), add(num(1000), go(name("c"), num(4)))),
                   1004, ways=[(1, 0, 0)])
        self.comes(let("c", kept(last(say(throw(num(0))), num(2))), otherwise(go(name("c"), A_BOX), num(6))),
                   6, ways=[(0, 1, 0)])
        self.comes(let("c", kept(last(throw(num(0)), FAULT)), otherwise(go(name("c"), num(4)), num(6))),
                   6, ways=[(1, 0, 0)])
        thrown_in_deed = kept(last(num(7), throw(num(0))))
        self.comes(let("c", thrown_in_deed, add(num(1000), go(name("c"), num(4)))), 1007, ways=[(1, 0, 0)])

    def test_a_last_around_the_catch_is_left_once(self):
        self.comes(last(caught(throw(num(1)), add(go(name("b"), num(1)), go(name("b"), num(2)))), say(num(5))),
                   3, [5], [(1, 0, 0)])
        self.comes(last(caught(throw(num(1)), name("a")), say(num(5))), 1, [5], [(1, 0, 0)])

    def test_a_last_around_a_throw_that_nobody_catches(self):
        self.fails(last(throw(num(1)), say(num(5))), "throw", [5], [(0, 1, 0)])

    def test_a_last_that_is_done_often(self):
        self.comes(round_and_round(100, last(name("c"), num(0)), num(1)), 1, ways=[(100, 0, 0)])
        self.comes(round_and_round(100, otherwise(last(FAULT, num(0)), num(3)), num(1)), 1, ways=[(0, 100, 0)])


class Drops(WayCase):
    def test_inner_ones_first_and_it_comes_to_0(self):
        body = last(last(last(throw(num(1)), say(num(2))), say(num(3))), say(num(4)))
        self.comes(caught(body, drop(name("b"))), 0, [2, 3, 4], [(0, 0, 1)] * 3)
        self.comes(caught(add(last(num(1), num(2)), last(throw(num(1)), say(num(3)))), drop(name("b"))), 0,
                   [3], [(1, 0, 0), (0, 0, 1)])

    def test_a_rest_without_lasts(self):
        self.comes(drop(A_REST), 0)
        self.comes(caught(say(throw(num(1))), add(drop(name("b")), num(5))), 5)

    def test_only_lasts_in_the_rest(self):
        self.comes(last(caught(last(throw(num(1)), say(num(2))), drop(name("b"))), say(num(3))), 0,
                   [2, 3], [(1, 0, 0), (0, 0, 1)])

    def test_each_with_the_names_where_it_stands(self):
        body = let("c", num(1), last(let("c", num(2), last(let("c", num(3), throw(num(0))), say(name("c")))),
                                     say(name("c"))))
        self.comes(let("c", num(9), caught(body, drop(name("b")))), 0, [2, 1], [(0, 0, 1), (0, 0, 1)])

    def test_a_fault_of_one_is_the_drops(self):
        body = last(last(last(throw(num(1)), say(num(2))), FAULT), say(num(4)))
        self.fails(caught(body, drop(name("b"))), "told", [2], [(0, 0, 0), (0, 0, 1), (0, 0, 1)])
        self.comes(caught(body, otherwise(drop(name("b")), num(8))), 8, [2], [(0, 0, 0), (0, 0, 1), (0, 0, 1)])

    def test_the_deeds_are_done_in_the_drops_place(self):
        # An else within the rest does not see a deed's fault; one around the drop does.
        body = otherwise(last(throw(num(1)), FAULT), num(50))
        self.comes(caught(body, otherwise(drop(name("b")), num(8))), 8, ways=[(0, 0, 1)])
        # A throw in a deed goes to the catch around the drop, not to the one of the rest.
        self.fails(caught(last(throw(num(1)), throw(num(2))), drop(name("b"))), "throw", ways=[(0, 0, 1)])
        self.comes(catch(caught(last(throw(num(1)), throw(num(2))), drop(name("b"))), "c", "d", name("c")), 2,
                   ways=[(0, 0, 1)])

    def test_the_rest_stays_as_it_was(self):
        body = last(throw(num(1)), say(num(2)))
        self.comes(caught(body, in_turn(drop(name("b")), drop(name("b")), go(name("b"), num(3)))), 3,
                   [2, 2, 2], [(1, 0, 2)])

    def test_later(self):
        self.comes(let("c", kept(last(throw(num(1)), say(num(2)))), in_turn(say(num(1)), drop(name("c")))), 0,
                   [1, 2], [(0, 0, 1)])

    def test_a_rest_gone_on_with_and_caught_anew(self):
        body = last(in_turn(throw(num(1)), last(throw(num(2)), say(num(20)))), say(num(10)))
        program = caught(body, when(less(name("a"), num(2)), go(name("b"), num(0)), drop(name("b"))))
        self.comes(program, 0, [20, 10], [(0, 0, 1), (0, 0, 1)])

    def test_drop_of_others(self):
        for e in (num(1), A_FUN, A_BOX):
            self.fails(drop(e), "rest")
        self.fails(drop(FAULT), "told")
        self.fails(drop(say(num(1))), "rest", [1])

    def test_a_last_whose_deed_is_under_way_is_not_done_again(self):
        self.comes(caught(last(num(1), in_turn(say(num(2)), throw(num(3)))), drop(name("b"))), 0, [2], [(1, 0, 0)])
        self.comes(caught(last(FAULT, in_turn(say(num(2)), throw(num(3)))), drop(name("b"))), 0, [2], [(0, 1, 0)])
        self.comes(caught(last(num(1), last(throw(num(3)), say(num(4)))), drop(name("b"))), 0,
                   [4], [(1, 0, 0), (0, 0, 1)])

    def test_hundreds_of_deeds(self):
        # 300 lasts under way within one another in one rest.
        deep = let("a", box(num(0)), let("b", put(name("a"), fun("c", when(
            name("c"), last(call(look(name("a")), take(name("c"), num(1))), say(name("c"))), throw(num(0))))),
            call(name("b"), num(300))))
        self.comes(catch(deep, "d", "e", drop(name("e"))), 0, range(1, 301), [(0, 0, 300)])
        self.comes(catch(deep, "d", "e", in_turn(drop(name("e")), go(name("e"), num(6)))), 6,
                   [*range(1, 301), *range(1, 301)], [(300, 0, 300)])


class ThrowsInDeeds(WayCase):
    def test_the_worth_that_the_last_is_to_come_to_is_caught(self):
        body = last(num(7), in_turn(throw(num(1)), say(num(2))))
        self.comes(caught(body, go(name("b"), num(0))), 7, [2], [(1, 0, 0)])
        self.comes(caught(body, add(go(name("b"), num(0)), go(name("b"), num(0)))), 14, [2, 2], [(1, 0, 0)])
        self.comes(caught(body, name("a")), 1, ways=[(1, 0, 0)])

    def test_the_fault_that_the_last_is_to_come_to_is_caught(self):
        body = last(look(num(1)), in_turn(throw(num(1)), say(num(2))))
        self.fails(caught(body, go(name("b"), num(0))), "box", [2], [(0, 1, 0)])
        self.comes(caught(body, otherwise(go(name("b"), num(0)), otherwise(go(name("b"), num(0)), num(5)))), 5,
                   [2, 2], [(0, 1, 0)])
        self.comes(caught(body, name("a")), 1, ways=[(0, 1, 0)])

    def test_a_fault_in_the_rest_of_a_deed_is_the_lasts(self):
        body = last(num(7), say(throw(num(1))))
        self.fails(caught(body, go(name("b"), A_FUN)), "number", ways=[(1, 0, 0)])
        self.comes(caught(body, go(name("b"), num(3))), 7, [3], [(1, 0, 0)])

    def test_the_deeds_that_the_drop_has_still_to_do_are_caught(self):
        dropped = caught(last(last(throw(num(0)), in_turn(say(num(1)), throw(num(5)), say(num(2)))), say(num(3))),
                         add(drop(name("b")), num(100)))
        once = catch(dropped, "c", "d", go(name("d"), num(0)))
        self.comes(once, 100, [1, 2, 3], [(0, 0, 1), (0, 0, 1)])
        twice = catch(dropped, "c", "d", add(go(name("d"), num(0)), go(name("d"), num(0))))
        self.comes(twice, 200, [1, 2, 3, 2, 3], [(0, 0, 2), (0, 0, 1)])
        never = catch(dropped, "c", "d", name("c"))
        self.comes(never, 5, [1], [(0, 0, 0), (0, 0, 1)])

    def test_a_drop_under_way_in_a_rest_has_no_bodies_under_way(self):
        dropped = caught(last(last(throw(num(0)), in_turn(say(num(1)), throw(num(5)), say(num(2)))), say(num(3))),
                         drop(name("b")))
        self.comes(catch(dropped, "c", "d", drop(name("d"))), 0, [1], [(0, 0, 0), (0, 0, 1)])

    def test_a_last_around_the_drop_is_under_way_in_a_rest_of_its_deed(self):
        dropped = last(caught(last(throw(num(0)), throw(num(5))), drop(name("b"))), say(num(3)))
        self.comes(catch(dropped, "c", "d", drop(name("d"))), 0, [3], [(0, 0, 1), (0, 0, 1)])
        self.comes(catch(dropped, "c", "d", go(name("d"), num(1))), 0, [3], [(1, 0, 0), (0, 0, 1)])

    def test_a_throw_in_a_deed_goes_to_the_innermost_catch_that_stands(self):
        self.comes(last(num(1), caught(throw(num(2)), say(name("a")))), 1, [2], [(1, 0, 0)])
        self.fails(last(num(1), throw(num(2))), "throw", ways=[(1, 0, 0)])
        self.fails(last(FAULT, throw(num(2))), "throw", ways=[(0, 1, 0)])
