"""Point 12: what run_piles tells, the papers that it takes and refuses, and what is copied."""

import copy
import itertools
import unittest
from unittest import mock

from tests.building import (
    A_BOX, A_FUN, FAULT, add, all_papers, box, call, catch, drop, fun, go, in_turn, kept, last, less, let, look, name,
    no_papers, num, otherwise, put, round_and_round, say, take, throw, when,
)
from tests.drawing import Lot
from whatremains import piles
from whatremains.errors import BadFuel, BadPapers, BadProgram
from whatremains.papers import papers
from whatremains.piles import run_piles
from whatremains.plain import run

THROW = throw(num(1))
QUIET = ("quiet", ())
K = (None, ())
GONE_ON = ("used", (K, QUIET))
DROPPED = ("used", (K,))


def once(body):
    """A catch with a paper, which goes on with the rest."""
    return catch(body, "a", "b", go(name("b"), num(10)))


def twice(body):
    """A catch without one, which goes on with the rest twice."""
    return catch(body, "c", "d", add(go(name("d"), num(1)), go(name("d"), num(2))))


# Its four catches: once, twice, once again, and one that hands its rest out.
FOUR = add(once(say(THROW)), add(twice(last(say(THROW), num(0))), add(
    catch(last(THROW, say(num(3))), "a", "b", drop(name("b"))), go(kept(say(THROW)), num(7)))))
FOUR_PAPERS = [GONE_ON, None, DROPPED, None]


class Given(unittest.TestCase):
    def refused(self, program, given, number, fuel=100):
        before = copy.deepcopy(given)
        for _ in range(2):
            with self.assertRaises(BadPapers) as caught:
                run_piles(program, fuel, given)
            self.assertEqual(caught.exception.number, number)
            self.assertEqual(given, before)

    def test_a_program_without_catches(self):
        self.assertEqual(run_piles(say(num(5)), 0, []), (([5], ("worth", 5), []), 0))
        for given in ([None], [QUIET], [GONE_ON], [None, None]):
            self.refused(num(5), given, 0)

    def test_with_all_some_or_none_of_its_papers(self):
        told = run(FOUR, 100)
        self.assertEqual(papers(FOUR), FOUR_PAPERS)
        for given in itertools.product((None, GONE_ON), (None,), (None, DROPPED), (None,)):
            self.assertEqual(run_piles(FOUR, 100, list(given))[0], told)

    def test_wrong_papers(self):
        wrong = (QUIET, ("free", ()), DROPPED, ("used", ()), (None, ()), (None, (K, QUIET)), ("used", (QUIET, QUIET)),
                 ("used", (K, QUIET, QUIET)), ("used", (K,)), (), ("used",), ("used", (K, QUIET), ()),
                 ("free", (K, QUIET)), (("used",), (K, QUIET)), ("used", ("b", QUIET)))
        for paper in wrong:
            self.refused(once(THROW), [paper], 0)
            self.refused(FOUR, [paper, None, None, None], 0)
            self.refused(FOUR, [paper, None, None], 0)
            self.refused(FOUR, [GONE_ON, paper, DROPPED, None], 1)
        self.refused(FOUR, [None, None, GONE_ON, None], 2)
        self.refused(FOUR, [GONE_ON, None, DROPPED, GONE_ON], 3)
        self.refused(FOUR, [GONE_ON, GONE_ON, GONE_ON, GONE_ON], 1)

    def test_a_paper_where_the_word_is_none(self):
        for paper in ((None, (("free", (K, QUIET)), ("free", (K, QUIET)))), (None, ()), QUIET,
                      ("used", (GONE_ON, GONE_ON)), (None, (GONE_ON, GONE_ON))):
            self.refused(twice(THROW), [paper], 0)
        self.refused(kept(THROW), [K], 0)

    def test_papers_of_other_catches(self):
        program = add(once(THROW), catch(THROW, "a", "b", drop(name("b"))))
        self.assertEqual(run_piles(program, 9, [GONE_ON, DROPPED])[1], 0)
        self.refused(program, [DROPPED, GONE_ON], 0)
        self.refused(program, [None, GONE_ON], 1)
        self.refused(program, [GONE_ON, GONE_ON], 1)

    def test_too_few_and_too_many(self):
        self.refused(FOUR, [], 0)
        self.refused(FOUR, [None], 1)
        self.refused(FOUR, [GONE_ON], 1)
        self.refused(FOUR, [None, None, None], 3)
        self.refused(FOUR, FOUR_PAPERS[:3], 3)
        self.refused(FOUR, [*FOUR_PAPERS, None], 4)
        self.refused(FOUR, [*FOUR_PAPERS, QUIET], 4)
        self.refused(FOUR, [*FOUR_PAPERS, None, None], 4)
        # A wrong one is ahead of those that are too many, or too few.
        self.refused(FOUR, [QUIET], 0)
        self.refused(FOUR, [None, None, QUIET, None, None], 2)

    def test_what_is_handed_in_first_is_refused_first(self):
        with self.assertRaises(BadProgram):
            run_piles(name("a"), -1, [QUIET])
        with self.assertRaises(BadProgram):
            run_piles(name("a"), 0, [])
        for fuel in (-1, 2001):
            for given in ([], [QUIET], [None], [GONE_ON]):
                with self.assertRaises(BadFuel):
                    run_piles(once(THROW), fuel, given)
        self.refused(once(THROW), [], 0, fuel=0)
        self.refused(once(THROW), [QUIET], 0, fuel=2000)

    def test_the_list_stays_as_it_was_and_changing_it_changes_nothing(self):
        given = list(FOUR_PAPERS)
        told = run_piles(FOUR, 100, given)
        self.assertEqual(given, FOUR_PAPERS)
        given.clear()
        given.append(5)
        self.assertEqual(run_piles(FOUR, 100, list(FOUR_PAPERS)), told)
        self.assertEqual(run(FOUR, 100), told[0])

    def test_told_again_the_same(self):
        told, copied = run_piles(FOUR, 100, FOUR_PAPERS)
        before = copy.deepcopy(told)
        self.assertEqual(run_piles(FOUR, 100, FOUR_PAPERS), (before, copied))
        told[0].append(1)
        told[2].clear()
        self.assertEqual(run_piles(FOUR, 100, FOUR_PAPERS), (before, copied))

    def test_kinds(self):
        for given in (FOUR_PAPERS, [None] * 4):
            told = run_piles(FOUR, 100, given)
            self.assertIs(type(told), tuple)
            self.assertEqual([type(part) for part in told], [tuple, int])
            self.assertEqual([type(part) for part in told[0]], [list, tuple, list])


class Copied(unittest.TestCase):
    def copies(self, program, given=None, fuel=2000):
        """How many cells are copied, with no papers unless there are some."""
        told, copied = run_piles(program, fuel, no_papers(program) if given is None else given)
        self.assertEqual(told, run(program, fuel))
        return copied

    def test_no_throw(self):
        for program in (num(1), once(num(1)), twice(say(num(1))), once(FAULT), otherwise(twice(FAULT), once(num(2))),
                        round_and_round(500, twice(num(1)), num(2)), twice(fun("e", throw(num(1)))),
                        twice(when(num(1), num(2), THROW)), go(num(1), num(2)), twice(throw(FAULT))):
            self.assertEqual(self.copies(program), 0)
            self.assertEqual(self.copies(program, all_papers(program)), 0)

    def test_a_throw_that_finds_no_catch(self):
        for program in (THROW, otherwise(THROW, THROW), add(twice(num(1)), THROW), catch(FAULT, "a", "b", THROW),
                        call(catch(fun("e", THROW), "a", "b", num(1)), num(2))):
            self.assertEqual(self.copies(program), 0)
        # The one that finds a catch is moved, the one in the handler finds none.
        program = catch(THROW, "a", "b", THROW)
        self.assertEqual(papers(program), [("free", (QUIET,))])
        self.assertEqual(self.copies(program, papers(program)), 0)

    def test_a_throw_that_comes_to_a_catch_without_a_paper(self):
        for program in (once(THROW), twice(THROW), twice(add(num(1), say(THROW))), kept(THROW),
                        catch(THROW, "a", "b", num(1))):
            self.assertGreater(self.copies(program), 0)

    def test_nothing_is_copied_where_all_have_papers(self):
        programs = (
            once(THROW),
            once(last(say(add(num(1), THROW)), say(num(2)))),
            once(in_turn(say(THROW), say(THROW), say(THROW))),
            once(add(once(THROW), THROW)),
            catch(last(last(THROW, say(num(1))), say(num(2))), "a", "b", drop(name("b"))),
            catch(THROW, "a", "b", num(3)),
            catch(in_turn(THROW, num(1)), "a", "b", say(name("a"))),
            catch(catch(THROW, "a", "b", throw(name("a"))), "c", "d", go(name("d"), num(5))),
            catch(THROW, "a", "b", when(name("a"), go(name("b"), num(0)), drop(name("b")))),
            round_and_round(900, once(add(THROW, num(1))), num(3)),
            once(round_and_round(900, throw(num(0)), num(3))),
            catch(last(num(1), say(THROW)), "a", "b", last(go(name("b"), num(5)), say(num(6)))),
        )
        for program in programs:
            self.assertNotIn(None, papers(program))
            self.assertEqual(self.copies(program, papers(program)), 0)
            self.assertGreater(self.copies(program), 0)

    def test_catches_without_papers_to_which_no_throw_comes(self):
        program = twice(add(num(1), once(say(THROW))))
        self.assertEqual(papers(program), [None, GONE_ON])
        self.assertEqual(self.copies(program, [None, GONE_ON]), 0)
        self.assertGreater(self.copies(program), 0)

    def test_with_a_paper_more_as_many_or_fewer(self):
        most = self.copies(FOUR)
        first = self.copies(FOUR, [GONE_ON, None, None, None])
        third = self.copies(FOUR, [None, None, DROPPED, None])
        both = self.copies(FOUR, FOUR_PAPERS)
        self.assertLess(first, most)
        self.assertLess(third, most)
        self.assertLess(both, min(first, third))
        self.assertGreater(both, 0)

    def test_a_rest_of_more_cells(self):
        # What lies below the catch isn't copied, and what lies above it is.
        little = self.copies(twice(THROW))
        self.assertEqual(self.copies(add(num(1), last(say(twice(THROW)), num(2)))), little)
        self.assertGreater(self.copies(twice(last(THROW, num(2)))), little)
        rounds = round_and_round(100, num(0), THROW)
        self.assertGreater(self.copies(twice(rounds)), little + 300)

    def test_drawn_programs(self):
        lot = Lot(12)
        fewer = none = 0
        for program in lot.programs(1500, 200):
            fuel = lot.fuel()
            told = run(program, fuel)
            right = papers(program)
            given = no_papers(program)
            self.assertEqual(run_piles(program, fuel, given)[0], told, program)
            copied = most = run_piles(program, fuel, given)[1]
            places = [place for place, paper in enumerate(right) if paper is not None]
            lot.lot.shuffle(places)
            for place in places:
                given[place] = right[place]
                again, now = run_piles(program, fuel, given)
                self.assertEqual(again, told, program)
                self.assertLessEqual(now, copied, program)
                copied = now
            fewer += copied < most
            none += copied == 0 and most > 0
        self.assertGreater(fewer, 100)
        self.assertGreater(none, 100)


# Rests that are kept in boxes, or handed out, and gone on with or dropped later, out of their catch, again.
KEPT = (
    let("c", box(num(0)), in_turn(
        catch(add(num(1), say(THROW)), "a", "b", put(name("c"), name("b"))),
        say(num(9)), add(go(look(name("c")), num(5)), go(look(name("c")), num(6))))),
    let("c", box(num(0)), in_turn(
        catch(last(once(add(THROW, THROW)), say(THROW)), "a", "b", put(name("c"), name("b"))),
        drop(look(name("c"))), go(look(name("c")), num(5)), go(look(name("c")), num(6)))),
    let("c", box(num(0)), in_turn(
        catch(add(throw(num(1)), throw(num(2))), "a", "b", put(name("c"), name("b"))),
        let("d", look(name("c")), in_turn(
            go(name("d"), num(10)), go(name("d"), num(20)), go(look(name("c")), num(30)), say(num(1)))))),
    let("c", box(num(0)), in_turn(
        twice(in_turn(once(say(THROW)), put(name("c"), add(look(name("c")), THROW)))), say(look(name("c"))))),
    let("c", kept(once(add(say(THROW), in_turn(say(num(4)), num(1))))), num(2)),
    let("c", kept(add(once(say(THROW)), say(THROW))), in_turn(
        once(go(name("c"), THROW)), once(go(name("c"), num(3))), twice(add(THROW, go(name("c"), THROW))))),
    catch(once(in_turn(say(THROW), call(fun("e", throw(name("e"))), num(4)))), "c", "d",
          in_turn(go(name("d"), num(1)), go(name("d"), num(2)))),
    catch(catch(add(THROW, num(5)), "a", "b", add(go(name("b"), num(10)), throw(num(3)))), "c", "d",
          add(go(name("d"), num(100)), go(name("d"), num(200)))),
    catch(catch(last(last(THROW, throw(num(4))), say(num(5))), "a", "b", drop(name("b"))), "c", "d",
          add(go(name("d"), num(100)), go(name("d"), num(200)))),
    twice(last(num(7), last(throw(num(1)), say(throw(num(2)))))),
    let("c", box(num(3)), twice(let("e", throw(num(1)), in_turn(
        put(name("c"), take(look(name("c")), num(1))), when(less(num(0), look(name("c"))), THROW, name("e")))))),
    in_turn(A_BOX, A_FUN, twice(otherwise(say(throw(A_BOX)), otherwise(add(THROW, FAULT), THROW)))),
)


class KeptRests(unittest.TestCase):
    def test_with_any_of_their_papers(self):
        for program in KEPT:
            right = papers(program)
            told = run(program, 200)
            for given in itertools.product(*[[None] if paper is None else [None, paper] for paper in right]):
                with self.subTest(program=program, given=given):
                    self.assertEqual(run_piles(program, 200, list(given))[0], told)

    def test_some_have_papers_and_some_have_none(self):
        some = [program for program in KEPT if None in papers(program)]
        all_but_some = [program for program in some if any(paper is not None for paper in papers(program))]
        self.assertGreaterEqual(len(all_but_some), 5)


class UsedOnce(unittest.TestCase):
    """Point 14: a rest with a paper is gone on with or dropped at most once each time that it is caught."""

    def counting(self, end):
        def count(pile, worths):
            rest = worths[0].kept
            if rest.moved:
                self.assertNotIn(id(rest), self.used)
                self.used[id(rest)] = rest
            end(pile, worths)
        return count

    def test_drawn_programs(self):
        lot = Lot(13)
        many = 0
        ends = {word: self.counting(piles.ENDS[word]) for word in ("go", "drop")}
        with mock.patch.dict(piles.ENDS, ends):
            for program in lot.programs(2500, 200):
                self.used = {}
                run_piles(program, lot.fuel(), papers(program))
                many += len(self.used)
        self.assertGreater(many, 300)
