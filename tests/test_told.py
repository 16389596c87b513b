"""Points 1 and 10: what is told, told again the same, and nothing handed in changed."""

import copy

from tests.building import (
    A_BOX, A_FUN, A_REST, FAULT, WAYS, WayCase, add, call, catch, drop, go, in_turn, last, name, num, otherwise,
    round_and_round, say, throw,
)
from whatremains.errors import BadProgram
from whatremains.programs import parts

MUCH = catch(last(in_turn(last(say(throw(num(1))), say(num(2))), last(otherwise(last(FAULT, num(0)), num(4)), num(5))),
                  say(num(6))), "a", "b", in_turn(go(name("b"), num(8)), drop(name("b")), num(9)))
MUCH_TOLD = ([8, 2, 6, 2, 6], ("worth", 9), [(1, 0, 1), (1, 0, 1), (1, 0, 0), (0, 1, 0)])
PROGRAMS = (MUCH, num(1), A_FUN, A_REST, A_BOX, FAULT, say(num(3)), round_and_round(3000 // 10, say(num(1)), num(2)))


class Told(WayCase):
    def test_kinds(self):
        for way in WAYS:
            for fuel in (0, 2000):
                for program in PROGRAMS:
                    told = way(program, fuel)
                    self.assertIs(type(told), tuple)
                    self.assertEqual([type(part) for part in told], [list, tuple, list])
                    for ways in told[2]:
                        self.assertIs(type(ways), tuple)
                        self.assertEqual([type(n) for n in ways], [int, int, int])
                    for n in told[0]:
                        self.assertIs(type(n), int)

    def test_the_ends(self):
        self.tells(num(-3), [], ("worth", -3))
        self.tells(A_FUN, [], ("worth", "fun"))
        self.tells(A_REST, [], ("worth", "rest"))
        self.tells(A_BOX, [], ("worth", "box"))
        self.tells(FAULT, [], ("fault", "told"))
        self.tells(call(A_FUN, num(1)), [], ("long",), fuel=0)

    def test_ways_of_lasts_as_they_stand(self):
        self.tells(MUCH, *MUCH_TOLD)
        self.tells(add(last(num(1), num(2)), otherwise(last(FAULT, last(num(1), num(2))), num(3))), [], ("worth", 4),
                   [(1, 0, 0), (0, 1, 0), (1, 0, 0)])
        self.tells(add(num(1), num(2)), [], ("worth", 3), [])
        self.tells(otherwise(num(1), last(num(1), num(2))), [], ("worth", 1), [(0, 0, 0)])

    def test_ways_of_lasts_that_are_one_and_the_same(self):
        one = last(num(1), num(2))
        self.tells(add(one, one), [], ("worth", 2), [(1, 0, 0), (1, 0, 0)])
        self.tells(otherwise(one, one), [], ("worth", 1), [(1, 0, 0), (0, 0, 0)])


class Again(WayCase):
    def test_told_again_the_same(self):
        for way in WAYS:
            for program in PROGRAMS:
                for fuel in (0, 1, 100, 2000):
                    told = way(program, fuel)
                    again = way(program, fuel)
                    self.assertEqual(told, again)

    def test_told_again_the_same_after_the_lists_were_changed(self):
        for way in WAYS:
            told = way(MUCH, 2000)
            told[0].append(5)
            told[0][0] = 100
            told[2].clear()
            other = way(MUCH, 2000)
            self.assertEqual(other, MUCH_TOLD)
            other[0].clear()
            other[2].append(1)
            self.assertEqual(way(MUCH, 2000), MUCH_TOLD)

    def test_nothing_told_is_one_and_the_same_list(self):
        for way in WAYS:
            told = way(num(1), 0)
            told[0].append(1)
            told[2].append((1, 2, 3))
            self.assertEqual(way(num(1), 0), ([], ("worth", 1), []))

    def test_nothing_handed_in_is_changed(self):
        for program in PROGRAMS:
            before = copy.deepcopy(program)
            size = parts(program)
            for way in WAYS:
                way(program, 2000)
            self.assertEqual(program, before)
            self.assertEqual(parts(program), size)

    def test_refused_again_the_same(self):
        bad = add(num(1), name("a"))
        for ask in (parts, *[lambda program, way=way: way(program, 5) for way in WAYS]):
            for _ in range(2):
                with self.assertRaises(BadProgram) as caught:
                    ask(bad)
                self.assertEqual((caught.exception.at, caught.exception.why), (2, "open"))
            caught.exception.at = 7
            with self.assertRaises(BadProgram) as caught:
                ask(bad)
            self.assertEqual(caught.exception.at, 2)

    def test_one_run_does_not_show_in_another(self):
        for way in WAYS:
            for other in WAYS:
                other(round_and_round(50, say(num(1)), num(2)), 20)
                self.assertEqual(way(MUCH, 2000), MUCH_TOLD)
