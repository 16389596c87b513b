"""Points 13 and 14: the word of each expression in a handler, papers, and what shows."""

import copy
import itertools
import unittest

from tests.building import (
    FAULT, add, box, call, catch, drop, fun, go, in_turn, last, less, let, look, name, num, otherwise, put, say, take,
    throw, when,
)
from tests.drawing import Lot
from whatremains.errors import BadPapers, BadProgram
from whatremains.papers import papers, shows

# Handlers are those of catches that bind a and k, which is b; c is bound around all.
K = name("b")
NO_K = name("a")
QUIET = num(1)
FREE = throw(num(1))
USED = go(K, num(1))
NONE = K
BY_WORD = {"quiet": QUIET, "free": FREE, "used": USED, None: NONE}
# What stands behind a word, and what it is then.
BEHIND = {
    ("quiet", "quiet"): "quiet", ("quiet", "free"): "free", ("quiet", "used"): "used", ("quiet", None): None,
    ("free", "quiet"): "free", ("free", "free"): "free", ("free", "used"): None, ("free", None): None,
    ("used", "quiet"): "used", ("used", "free"): "used", ("used", "used"): None, ("used", None): None,
    (None, "quiet"): None, (None, "free"): None, (None, "used"): None, (None, None): None,
}
THROWN = {"quiet": "free", "free": "free", "used": "used", None: None}
WORDS = ("quiet", "free", "used", None)


def handled(handler):
    """A program of which this is the outermost catch's handler."""
    return let("c", num(0), catch(num(0), "a", "b", handler))


def word_of(handler):
    paper = papers(handled(handler))[0]
    return None if paper is None else paper[0]


class Rules(unittest.TestCase):
    def has(self, handler, word):
        """The handler's word is this one, and what stands around it or behind it goes by that."""
        with self.subTest(handler=handler):
            self.assertEqual(word_of(handler), word)
            self.assertEqual(word_of(say(add(num(1), handler))), word)
            self.assertEqual(word_of(throw(handler)), THROWN[word])
            self.assertEqual(word_of(add(handler, drop(K))), "used" if word == "quiet" else None)
            self.assertEqual(word_of(fun("d", handler)), "quiet" if word in ("quiet", "free") else None)

    def test_num_name_and_fault(self):
        self.has(num(0), "quiet")
        self.has(NO_K, "quiet")
        self.has(name("c"), "quiet")
        self.has(FAULT, "quiet")
        self.has(K, None)

    def test_two_behind_one_another(self):
        for (one, other), word in BEHIND.items():
            for of in (add, take, less, put, last, otherwise):
                self.has(of(BY_WORD[one], BY_WORD[other]), word)
            self.has(let("c", BY_WORD[one], BY_WORD[other]), word)
            self.has(call(BY_WORD[one], BY_WORD[other]), THROWN[word])

    def test_one_within(self):
        for word in WORDS:
            for of in (say, box, look):
                self.has(of(BY_WORD[word]), word)
            self.has(throw(BY_WORD[word]), THROWN[word])

    def test_three_and_more_one_by_one(self):
        for words in itertools.product(WORDS, repeat=3):
            word = BEHIND[BEHIND[words[:2]], words[2]]
            one, two, three = (BY_WORD[each] for each in words)
            self.has(in_turn(one, two, three), word)
            self.has(add(add(one, two), three), word)
        self.has(in_turn(QUIET, QUIET, USED, QUIET, FREE, QUIET), "used")
        self.has(in_turn(QUIET, FREE, QUIET, QUIET, FREE), "free")
        self.has(in_turn(QUIET, FREE, QUIET, USED), None)
        self.has(in_turn(USED, QUIET, QUIET, USED), None)
        self.has(in_turn(USED, FREE, QUIET, K), None)

    def test_if(self):
        greater = ("quiet", "free", "used")
        for e, one, other in itertools.product(WORDS, repeat=3):
            if one is None or other is None:
                word = None
            else:
                word = BEHIND[e, greater[max(greater.index(one), greater.index(other))]]
            self.has(when(BY_WORD[e], BY_WORD[one], BY_WORD[other]), word)

    def test_go_with_the_name_of_the_rest(self):
        self.has(go(K, num(1)), "used")
        self.has(go(K, NO_K), "used")
        self.has(go(K, say(add(NO_K, num(1)))), "used")
        self.has(go(K, fun("d", throw(num(1)))), "used")
        for second in (FREE, USED, K, drop(K), call(NO_K, num(1)), say(K), fun("d", K), go(NO_K, num(1))):
            self.has(go(K, second), None)

    def test_other_gos(self):
        for one, other in itertools.product(("quiet", "free", "used"), WORDS):
            self.has(go(BY_WORD[one], BY_WORD[other]), THROWN[BEHIND[one, other]])
        self.has(go(NO_K, num(1)), "free")
        self.has(go(NO_K, K), None)
        self.has(go(USED, num(1)), "used")
        self.has(go(say(K), num(1)), None)
        self.has(go(let("d", K, name("d")), num(1)), None)
        self.has(go(when(num(1), K, NO_K), num(1)), None)

    def test_drops(self):
        self.has(drop(K), "used")
        self.has(drop(NO_K), "free")
        self.has(drop(QUIET), "free")
        self.has(drop(FREE), "free")
        self.has(drop(USED), "used")
        self.has(drop(drop(K)), "used")
        self.has(drop(say(K)), None)
        self.has(add(drop(K), drop(K)), None)
        self.has(add(drop(K), go(K, num(1))), None)

    def test_call_and_throw(self):
        self.has(call(NO_K, num(1)), "free")
        self.has(call(K, num(1)), None)
        self.has(call(NO_K, K), None)
        self.has(throw(num(1)), "free")
        self.has(throw(K), None)
        self.has(throw(USED), "used")

    def test_fun(self):
        for word, fun_word in (("quiet", "quiet"), ("free", "quiet"), ("used", None), (None, None)):
            self.has(fun("d", BY_WORD[word]), fun_word)
            self.has(fun("a", BY_WORD[word]), fun_word)
            self.has(fun("b", BY_WORD[word]), "quiet")
        self.has(add(fun("d", FREE), USED), "used")
        self.has(call(fun("d", FREE), USED), "used")

    def test_a_catch_within(self):
        for body, handler in itertools.product(WORDS, repeat=2):
            word = THROWN[body] if handler in ("quiet", "free") else None
            self.has(catch(BY_WORD[body], "d", "e", BY_WORD[handler]), word)
        self.has(catch(USED, "d", "e", go(name("e"), num(1))), "used")
        self.has(catch(throw(num(1)), "d", "e", add(drop(name("e")), go(name("e"), num(1)))), "free")
        self.has(catch(num(1), "d", "e", name("e")), "free")
        self.has(catch(K, "d", "e", num(1)), None)

    def test_bound_anew(self):
        # Where the name of the rest is bound anew it is a name like another.
        self.has(let("b", num(1), K), "quiet")
        self.has(let("b", num(1), go(K, num(1))), "free")
        self.has(let("b", num(1), drop(K)), "free")
        self.has(let("b", num(1), add(K, go(K, throw(K)))), "free")
        self.has(let("b", USED, K), "used")
        self.has(let("b", USED, drop(K)), "used")
        self.has(let("b", K, num(1)), None)
        self.has(let("b", num(1), let("a", K, go(K, num(1)))), "free")
        self.has(fun("b", go(K, K)), "quiet")
        self.has(fun("b", fun("c", K)), "quiet")
        self.has(catch(num(1), "b", "d", K), "free")
        self.has(catch(num(1), "d", "b", K), "free")
        self.has(catch(num(1), "d", "b", go(K, num(1))), "free")
        self.has(catch(K, "d", "b", num(1)), None)
        self.has(catch(K, "b", "d", num(1)), None)
        self.has(catch(go(K, num(1)), "b", "d", drop(K)), "used")
        self.has(catch(num(1), "d", "e", drop(K)), None)
        # It counts again out of there, and other names that are bound anew change nothing.
        self.has(add(let("b", num(1), K), K), None)
        self.has(add(let("b", num(1), K), drop(K)), "used")
        self.has(let("a", num(1), K), None)
        self.has(let("a", num(1), go(K, NO_K)), "used")
        self.has(let("a", num(1), drop(K)), "used")
        self.has(fun("a", drop(K)), None)
        self.has(catch(drop(K), "a", "d", num(1)), "used")
        self.has(catch(num(1), "a", "d", K), None)

    def test_the_worths_name_is_like_another(self):
        self.has(go(NO_K, num(1)), "free")
        self.has(in_turn(NO_K, go(K, NO_K)), "used")


class Papers(unittest.TestCase):
    def test_kinds(self):
        self.assertEqual(papers(num(1)), [])
        self.assertEqual(papers(handled(num(1))), [("quiet", ())])
        self.assertEqual(papers(handled(K)), [None])
        self.assertIs(type(papers(num(1))), list)

    def test_papers_tell_of_all_within(self):
        cases = (
            (go(K, num(1)), ("used", ((None, ()), ("quiet", ())))),
            (drop(K), ("used", ((None, ()),))),
            (throw(NO_K), ("free", (("quiet", ()),))),
            (fun("d", throw(NO_K)), ("quiet", (("free", (("quiet", ()),)),))),
            (fun("b", go(K, K)), ("quiet", (("free", (("quiet", ()), ("quiet", ()))),))),
            (let("b", drop(K), K), ("used", (("used", ((None, ()),)), ("quiet", ())))),
            (when(num(1), drop(K), FAULT), ("used", (("quiet", ()), ("used", ((None, ()),)), ("quiet", ())))),
            (catch(drop(K), "d", "b", drop(K)), ("used", (("used", ((None, ()),)), ("free", (("quiet", ()),))))),
        )
        for handler, paper in cases:
            self.assertEqual(papers(handled(handler))[0], paper)

    def test_as_the_catches_stand(self):
        first = catch(catch(num(1), "a", "b", drop(K)), "a", "b", K)
        self.assertEqual(papers(first), [None, ("used", ((None, ()),))])
        second = catch(num(1), "a", "b", catch(num(2), "c", "d", go(name("d"), num(3))))
        inner = ("used", ((None, ()), ("quiet", ())))
        self.assertEqual(papers(second), [("free", (("quiet", ()), ("free", (("quiet", ()), ("quiet", ()))))), inner])
        both = add(first, second)
        self.assertEqual(papers(both), papers(first) + papers(second))
        self.assertEqual(papers(let("a", second, fun("b", first))), papers(second) + papers(first))

    def test_a_catch_in_a_handler_is_looked_at_for_both_rests(self):
        # For the outer one the inner handler uses k; for the inner one it uses d.
        handler = catch(throw(num(1)), "c", "d", add(drop(name("d")), drop(K)))
        dropped = ("used", ((None, ()),))
        self.assertEqual(papers(handled(handler)), [None, ("used", (dropped, ("free", (("quiet", ()),))))])

    def test_forty_deep(self):
        bodies = catch(num(1), "a", "b", num(1))
        for _ in range(39):
            bodies = catch(bodies, "a", "b", drop(K))
        self.assertEqual(papers(bodies), [("used", ((None, ()),))] * 39 + [("quiet", ())])
        handlers = num(1)
        for _ in range(40):
            handlers = catch(num(1), "a", "b", handlers)
        found = papers(handlers)
        self.assertEqual(len(found), 40)
        paper = ("quiet", ())
        for told in reversed(found):
            self.assertEqual(told, paper)
            paper = ("free", (("quiet", ()), paper))
        deep = num(1)
        for _ in range(38):
            deep = catch(deep, "c", "d", num(1))
        self.assertEqual(papers(handled(deep))[0][0], "free")
        self.assertEqual(len(papers(handled(deep))), 39)

    def test_told_again_the_same_and_nothing_is_changed(self):
        program = handled(in_turn(drop(K), catch(FREE, "c", "d", K)))
        before = copy.deepcopy(program)
        found = papers(program)
        told = list(found)
        found.clear()
        found.append(5)
        self.assertEqual(papers(program), told)
        self.assertEqual(program, before)

    def test_what_is_no_program_is_refused(self):
        with self.assertRaises(BadProgram) as caught:
            papers(catch(num(1), "a", "b", name("c")))
        self.assertEqual((caught.exception.at, caught.exception.why), (2, "open"))


def changed(paper):
    """Papers that differ from this one at one place."""
    word, within = paper
    for other in ("quiet", "free", "used", None, "", "name", "Quiet"):
        if other != word:
            yield (other, within)
    yield (word, (*within, ("quiet", ())))
    yield (word, (("quiet", ()), *within))
    yield (word, (within,))
    yield (word,)
    yield (word, within, ())
    yield (within, word)
    yield ()
    if within:
        yield (word, within[:-1])
        yield (word, within[1:])
        yield (word, ())
        yield (word, (*within, within[0]))
        if within[::-1] != within:
            yield (word, within[::-1])
        yield within[0]
    for place, inner in enumerate(within):
        for other in changed(inner):
            yield (word, (*within[:place], other, *within[place + 1:]))


HANDLERS = (
    num(1), FREE, USED, drop(K), K, add(NO_K, USED), fun("d", FREE), when(NO_K, USED, drop(K)),
    in_turn(say(NO_K), go(K, NO_K), throw(num(1))), catch(USED, "c", "d", drop(name("d"))), let("b", drop(K), K),
    go(K, FREE), add(drop(K), drop(K)), catch(K, "c", "d", num(1)), otherwise(last(USED, FREE), box(FREE)),
    put(fun("b", K), look(go(K, fun("d", call(name("d"), name("d")))))),
)


class Shows(unittest.TestCase):
    def test_the_right_paper_and_changed_ones(self):
        for handler in HANDLERS:
            program = handled(handler)
            paper = papers(program)[0]
            if paper is None:
                continue
            self.assertIs(shows(program, 0, paper), True)
            self.assertIs(shows(program, 0, copy.deepcopy(paper)), True)
            for other in changed(paper):
                self.assertIs(shows(program, 0, other), False, other)
            self.assertIs(shows(program, 0, None), False)

    def test_a_paper_whose_word_is_none(self):
        self.assertIs(shows(handled(K), 0, (None, ())), False)
        self.assertIs(shows(handled(K), 0, None), False)
        self.assertIs(shows(handled(K), 0, ("quiet", ())), False)
        drops = ("used", ((None, ()),))
        self.assertIs(shows(handled(add(drop(K), drop(K))), 0, (None, (drops, drops))), False)
        self.assertIs(shows(handled(add(drop(K), drop(K))), 0, ("used", (drops, drops))), False)

    def test_of_each_catch(self):
        program = add(handled(drop(K)), add(handled(num(1)), handled(USED)))
        found = papers(program)
        for number in range(3):
            for other in range(3):
                self.assertIs(shows(program, number, found[other]), number == other)

    def test_of_no_catch(self):
        program = add(handled(drop(K)), handled(num(1)))
        for number in (-1, -2, -3, 2, 3, 1000, -1000, 10 ** 20):
            for paper in (papers(program)[0], None, (), ("quiet", ())):
                with self.assertRaises(BadPapers) as caught:
                    shows(program, number, paper)
                self.assertEqual(caught.exception.number, number)
        with self.assertRaises(BadPapers) as caught:
            shows(num(1), 0, ("quiet", ()))
        self.assertEqual(caught.exception.number, 0)

    def test_what_is_handed_in_first_is_refused_first(self):
        for number in (-1, 0, 5):
            with self.assertRaises(BadProgram):
                shows(name("a"), number, ("quiet", ()))

    def test_drawn_programs(self):
        lot = Lot(14)
        words = set()
        for program in lot.programs(400, 200):
            found = papers(program)
            for number, paper in enumerate(found):
                if paper is not None:
                    words.add(paper[0])
                    self.assertIsNotNone(paper[0])
                    self.assertTrue(shows(program, number, paper))
                for other, its in enumerate(found):
                    if its is not None:
                        self.assertIs(shows(program, number, its), found[number] == found[other])
        self.assertEqual(words, {"quiet", "free", "used"})
