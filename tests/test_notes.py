"""Point 15: programs written as texts, texts read as programs, and texts that are none."""

import random
import unittest

from tests.building import (
    A_BOX, A_FUN, A_REST, FAULT, add, box, call, catch, drop, fun, go, last, less, let, look, name, num, otherwise, put,
    say, take, throw, when,
)
from tests.drawing import Lot, size
from tests.test_programs import of_size, within
from whatremains.errors import BadProgram, BadText
from whatremains.notes import read, written

EACH_WORD = (
    (num(5), "5"),
    (let("a", num(1), name("a")), "let a 1 a"),
    (add(num(1), num(2)), "add 1 2"),
    (take(num(1), num(2)), "take 1 2"),
    (less(num(1), num(2)), "less 1 2"),
    (when(num(1), num(2), num(3)), "if 1 2 3"),
    (fun("h", name("h")), "fun h h"),
    (call(num(1), num(2)), "call 1 2"),
    (say(num(1)), "say 1"),
    (box(num(1)), "box 1"),
    (look(num(1)), "look 1"),
    (put(num(1), num(2)), "put 1 2"),
    (catch(num(1), "a", "b", add(name("a"), name("b"))), "catch 1 a b add a b"),
    (throw(num(1)), "throw 1"),
    (go(num(1), num(2)), "go 1 2"),
    (drop(num(1)), "drop 1"),
    (last(num(1), num(2)), "last 1 2"),
    (otherwise(num(1), num(2)), "else 1 2"),
    (FAULT, "fault"),
    (otherwise(FAULT, last(FAULT, catch(throw(FAULT), "g", "h", name("g")))),
     "else fault last fault catch throw fault g h g"),
    (let("c", A_FUN, let("d", A_REST, let("e", A_BOX, call(name("c"), go(name("d"), look(name("e"))))))),
     "let c fun a a let d catch throw 1 g h h let e box 1 call c go d look e"),
)
COUNTS = {"add": "ee", "take": "ee", "less": "ee", "if": "eee", "let": "xee", "fun": "xe", "call": "ee", "say": "e",
          "box": "e", "look": "e", "put": "ee", "catch": "exxe", "throw": "e", "go": "ee", "drop": "e", "last": "ee",
          "else": "ee", "fault": ""}


def wrong_place(words):
    """Where these words are no text, or None: the places that are still to be filled are kept as one row."""
    wanted = "e"
    for place, word in enumerate(words):
        if wanted == "":
            return place
        first, wanted = wanted[0], wanted[1:]
        if word in tuple("abcdefgh"):
            continue
        if first == "x":
            return place
        if word in COUNTS:
            wanted = COUNTS[word] + wanted
            continue
        figures = word[1:] if word[:1] == "-" else word
        if not (figures.isascii() and figures.isdigit() and len(figures) <= 7 and str(int(word)) == word):
            return place
    return len(words) if wanted else None


class Case(unittest.TestCase):
    def no_text(self, text, place):
        for _ in range(2):
            with self.assertRaises(BadText) as caught:
                read(text)
            self.assertEqual(caught.exception.place, place, text)

    def no_program(self, text, at, why):
        for _ in range(2):
            with self.assertRaises(BadProgram) as caught:
                read(text)
            self.assertEqual((caught.exception.at, caught.exception.why), (at, why), text)


class Written(Case):
    def test_each_word(self):
        for program, text in EACH_WORD:
            self.assertEqual(written(program), text)
            self.assertEqual(read(text), program)
            self.assertEqual(written(say(program)), "say " + text)
            self.assertEqual(written(add(program, program)), f"add {text} {text}")
            self.assertEqual(read(f"if 1 {text} {text}"), when(num(1), program, program))

    def test_each_name(self):
        for x in "abcdefgh":
            self.assertEqual(written(fun(x, name(x))), f"fun {x} {x}")
            self.assertEqual(read(f"fun {x} {x}"), fun(x, name(x)))
            y = "b" if x == "a" else "a"
            self.assertEqual(read(f"catch 1 {x} {y} {x}"), catch(num(1), x, y, name(x)))

    def test_numbers(self):
        for n in (-1000000, -999999, -10, -1, 0, 1, 7, 10, 100, 999999, 1000000):
            self.assertEqual(written(num(n)), str(n))
            self.assertEqual(read(str(n)), num(n))
            self.assertEqual(read(f"add {n} {n}"), add(num(n), num(n)))

    def test_kinds(self):
        self.assertIs(type(written(num(1))), str)
        found = read("catch add 1 -2 a b fun c let d fault d")
        self.assertEqual(found, catch(add(num(1), num(-2)), "a", "b", fun("c", let("d", FAULT, name("d")))))
        waiting = [found]
        while waiting:
            part = waiting.pop()
            self.assertIs(type(part), tuple)
            waiting += [held for held in part if not isinstance(held, (str, int))]
        self.assertIs(type(read("5")[1]), int)

    def test_the_greatest_programs(self):
        for program in (within(40, num(1)), of_size(199), say(of_size(199)), within(40, num(-1000000))):
            self.assertEqual(read(written(program)), program)

    def test_drawn_programs(self):
        lot = Lot(15)
        for program in lot.programs(600, 200):
            text = written(program)
            self.assertEqual(read(text), program)
            self.assertEqual(written(read(text)), text)

    def test_what_is_no_program_is_not_written(self):
        for program, at, why in ((name("a"), 0, "open"), (add(num(1), 5), 2, "shape"), (num(1000001), 0, "number"),
                                 (within(41, num(1)), 41, "deep"), (of_size(201), 200, "many"),
                                 (catch(num(1), "a", "a", num(1)), 0, "name"), ("say 1", 0, "shape"), (1, 0, "shape")):
            with self.assertRaises(BadProgram) as caught:
                written(program)
            self.assertEqual((caught.exception.at, caught.exception.why), (at, why))


class NoTexts(Case):
    def test_wrong_numbers(self):
        for word in ("10000000", "-10000000", "12345678", "-0", "00", "-00", "07", "-07", "+1", "+0", "1.0", "1_0", "-",
                     "--1", "1-", "0x1", "1e3", "0000001", "00000001", "1,000", "-+1", "1+", "''"):
            self.no_text(word, 0)
            self.no_text(f"add {word} 1", 1)
            self.no_text(f"add 1 {word}", 2)
            self.no_text(f"let {word} 1 1", 1)

    def test_each_sign(self):
        for sign in map(chr, range(ord("!"), ord("~") + 1)):
            if sign not in "abcdefgh0123456789":
                self.no_text(sign, 0)
            if sign not in "0123456789":
                self.no_text(f"say 1{sign}", 1)
                self.no_text(f"say -{sign}", 1)
            self.no_text(f"say a{sign}", 1)

    def test_wrong_words(self):
        for word in ("i", "z", "A", "aa", "ab", "Say", "SAY", "says", "num", "name", "then", "''", "e'", "a.", "(", ",",
                     "~", "!", "let-", "None", "True", "faults"):
            self.no_text(word, 0)
            self.no_text(f"say {word}", 1)
            self.no_text(f"add 1 {word}", 2)
            self.no_text(f"let {word} 1 1", 1)
            self.no_text(f"fun {word} 1", 1)
            self.no_text(f"catch 1 {word} b 1", 2)
            self.no_text(f"catch 1 a {word} 1", 3)
        self.no_text("num 5", 0)
        self.no_text("name a", 0)
        self.no_text("say num 5", 1)

    def test_what_cannot_stand_in_a_names_place(self):
        for word in (*COUNTS, "0", "1", "-5", "1000000", ""):
            self.no_text(f"let {word} 1 1", 1)
            self.no_text(f"fun {word} 1", 1)
            self.no_text(f"catch 1 {word} a 1", 2)
            self.no_text(f"catch add 1 1 a {word} 1", 5)

    def test_empty_texts_and_empty_words(self):
        self.no_text("", 0)
        self.no_text(" ", 0)
        self.no_text("  ", 0)
        self.no_text(" 5", 0)
        self.no_text("5 ", 1)
        self.no_text("5  ", 1)
        self.no_text("add  1 2", 1)
        self.no_text("add 1  2", 2)
        self.no_text("add 1 2 ", 3)
        self.no_text(" add 1 2", 0)
        self.no_text("add 1 ", 2)
        self.no_text("add ", 1)
        self.no_text("let  a 1 a", 1)
        self.no_text("fault ", 1)

    def test_more_must_come(self):
        for _, text in EACH_WORD:
            words = text.split(" ")
            for many in range(1, len(words)):
                self.no_text(" ".join(words[:many]), many)

    def test_a_word_too_many_behind(self):
        for _, text in EACH_WORD:
            words = text.split(" ")
            for word in ("1", "a", "say", "fault", "z", "", "-0"):
                self.no_text(f"{text} {word}", len(words))
                self.no_text(f"{text} {word} say", len(words))

    def test_a_word_more_less_or_another_at_each_place(self):
        for _, text in EACH_WORD:
            words = text.split(" ")
            for place in range(len(words) + 1):
                for word in ("1", "a", "say", "add", "let", "fault", "z", "", "07"):
                    self.goes_by_the_words([*words[:place], word, *words[place:]])
                    self.goes_by_the_words([*words[:place], word, *words[place + 1:]])
                self.goes_by_the_words([*words[:place], *words[place + 1:]])

    def goes_by_the_words(self, words):
        """Read, or refused as no program if it is a text and else at the right place."""
        text = " ".join(words)
        place = wrong_place(text.split(" "))
        if place is not None:
            self.no_text(text, place)
            return False
        try:
            self.assertEqual(written(read(text)), text)
        except BadProgram:
            pass
        return True

    def test_drawn_texts(self):
        lot = random.Random(16)
        words = [*COUNTS, *"abcdefgh", "a", "b", "0", "1", "-1", "1000001", "", "i", "-0", "num"]
        texts = 0
        for _ in range(4000):
            texts += self.goes_by_the_words([lot.choice(words) for _ in range(lot.randint(1, 8))])
        self.assertGreater(texts, 100)
        for program in Lot(17).programs(300, 60):
            row = written(program).split(" ")
            for _ in range(5):
                row[lot.randrange(len(row))] = lot.choice(words)
                self.goes_by_the_words(row)


class NoPrograms(Case):
    def test_numbers(self):
        for n in (1000001, -1000001, 9999999, -9999999):
            self.no_program(str(n), 0, "number")
            self.no_program(f"add 1 {n}", 2, "number")

    def test_names(self):
        self.no_program("a", 0, "open")
        self.no_program("let a a 1", 1, "open")
        self.no_program("let a 1 b", 2, "open")
        self.no_program("catch a a b 1", 1, "open")
        self.no_program("add fun c c c", 3, "open")
        self.no_program("catch 1 a a 2", 0, "name")
        self.no_program("say catch 1 h h 2", 1, "name")

    def test_many_and_deep(self):
        text = "say " * 40 + "1"
        self.assertEqual(size(read(text)), 41)
        self.no_program("say " + text, 41, "deep")
        self.no_program("add 1 " + text, 42, "deep")
        wide = "1"
        for _ in range(7):
            wide = f"add {wide} {wide}"
        self.no_program(wide, 200, "many")
        self.no_program(f"add {'say ' * 41}1 {wide}", 41, "deep")
        self.no_program(f"add {wide} {'say ' * 41}1", 200, "many")

    def test_first_whether_it_is_a_text(self):
        self.no_text("say " * 60 + "say", 61)
        self.no_text("say " * 60 + "z", 60)
        self.no_program("add a 1000001", 1, "open")
        self.no_text("add a", 2)
        self.no_text("add 1000001", 2)
        self.no_text("catch 1 a a", 4)
        self.no_text("catch 1 a a 1 1", 5)
        self.no_text("say " * 60 + "1 1", 61)
        self.no_text("add " * 300 + "1 " * 300 + "z", 600)
        self.no_text("add " * 300 + "1 " * 299 + "1", 600)
        self.no_program("add " * 300 + "1 " * 300 + "1", 41, "deep")

    def test_long_texts(self):
        for word in ("say", "box", "look", "fun a", "if 1 1", "throw"):
            times = 14900 // (len(word) + 1)
            many = times * len(word.split(" "))
            text = f"{word} " * times
            self.no_text(text + "z", many)
            self.no_text(text.strip(" "), many)
            self.no_text(text + "1 1", many + 1)
            self.no_program(text + "1", *((121, "deep") if word == "if 1 1" else (41, "deep")))
        wide = "1"
        while len(wide) < 7000:
            wide = f"add {wide} {wide}"
        self.no_program(wide, 200, "many")
        self.no_text(wide + " 1", len(wide.split(" ")))
        self.no_text("a" * 15000, 0)
        self.no_text("1" * 15000, 0)
        self.no_text("-" * 15000, 0)
        self.no_text(" " * 15000, 0)
        self.no_text("1" + " " * 14999, 1)
        self.no_text("1 " * 7500, 1)
