"""Texts of rows and bounds ([28], with [16])."""

import random
import unittest

from meetbehind.errors import InvalidText
from meetbehind.late import late
from meetbehind.names import read_name
from meetbehind.plantexts import show_bound, show_rows
from meetbehind.plans import reach
from meetbehind.reader import read_bound, read_rows
from tests.model import random_world
from tests.samples import A1, any_values, BIG, Checks, CHAIN, DEEP, DRIFT, INNER, ONE, SIX, STRICT

WORLDS = (ONE, STRICT, INNER, CHAIN, DEEP, SIX, DRIFT, BIG)
ROW = (1, "x", ("own", 1))
# a name as deep as can be, gates four deep, names within names, and names of nine letters
DEEPEST = "a(b(c(10)))"
WRONG_NAMES = ["", "?", "010", "0", "100", "1??", "a", "a(", "a()", "a(10", "a(10))", "a(5?)", "a(10|)", "a(10|5)?", "A(10)",
               "a(10|5?|1?)", "d(a(b(c(10))))", "a(10|d(a(b(c(10)))))", "a(10|b(10|c(10)))", "abcdefghi(10)", "a(abcdefghi(10))",
               "a(10|00?)", "a(10|100?)", "(10)", "10?x", "+1", "1.0", "a(10|b(10|5?)|1)", "-", "never", "\t1", "a(10)\r"]
WRONG_NUMBERS = ["", "0", "00", "01", "007", "1000001", "10000000", "-1", "+1", "1.0", "1e3", "x", "never", "9" * 3000,
                 "0" * 3000 + "1", "1_0", "1x"]
WRONG_WORDS = ["", "X", "x1", "-", "abcdefghi", "x\t", "x.", "a_b", "z" * 3000]


class ShowTest(Checks, unittest.TestCase):

    def test_the_example(self):
        self.assert_same([show_rows(((1, "x", ("own", 1)), (2, "y", A1))), read_bound("never\n1 a(10|1)"), read_rows("")],
                         ["1 x 1\n2 y a(10|1)", (None, ((1, A1),)), ()])

    def test_rows(self):
        self.assert_same(show_rows(()), "")
        self.assert_same(show_rows(rows=[]), "")
        self.assert_same(show_rows([ROW]), "1 x 1")
        # in their order, whatever it is
        self.assert_same(show_rows([(2, "y", A1), ROW, ROW]), "2 y a(10|1)\n1 x 1\n1 x 1")
        self.assert_same(show_rows(((10 ** 6, "abcdefgh", ("blind", 99)),)), "1000000 abcdefgh 99?")

    def test_bounds(self):
        self.assert_same(show_bound((1, ())), "1")
        self.assert_same(show_bound(bound=(None, ())), "never")
        self.assert_same(show_bound((7, ((2, A1), (1, ("lent", "a", ("own", 10), 5))))), "7\n2 a(10|1)\n1 a(10|5?)")


class ReadTest(Checks, unittest.TestCase):

    def wrong(self, line, word, text, read=read_rows):
        self.assert_raises(InvalidText, {"line": line, "word": word}, read, text)

    def test_rows(self):
        self.assert_same(read_rows("1 x 1"), (ROW,))
        self.assert_same(read_rows(text="2 y a(10|1)\n1 x 1\n1 x 1"), ((2, "y", A1), ROW, ROW))
        self.assert_same(read_rows("1000000 abcdefgh 99?\n1 z 5?"),
                         ((10 ** 6, "abcdefgh", ("blind", 99)), (1, "z", ("blind", 5))))
        self.assert_same(read_rows("10 x " + DEEPEST), ((10, "x", read_name(DEEPEST)),))
        # hosts may be called like words of other texts
        self.assert_same(read_rows("1 never 1"), ((1, "never", ("own", 1)),))

    def test_bounds(self):
        self.assert_same(read_bound("1"), (1, ()))
        self.assert_same(read_bound("1000000"), (10 ** 6, ()))
        self.assert_same(read_bound(text="never"), (None, ()))
        # own and blind names, too, in any order and twice
        self.assert_same(read_bound("never\n2 a(10|1)\n1 10\n1 7?\n2 a(10|1)"),
                         (None, ((2, A1), (1, ("own", 10)), (1, ("blind", 7)), (2, A1))))

    def test_empty_texts(self):
        self.assert_same(read_rows(""), ())
        self.wrong(0, 0, "", read_bound)

    def test_values_that_are_no_strings(self):
        for value in any_values():
            if not isinstance(value, str):
                self.wrong(0, 0, value)
                self.wrong(0, 0, value, read_bound)

    def test_wrong_words_of_rows(self):
        for word in WRONG_NUMBERS:
            self.wrong(0, 0, word + " x 1")
        for word in WRONG_WORDS:
            self.wrong(0, 1, f"1 {word} 1")
        for word in WRONG_NAMES:
            self.wrong(0, 2, f"1 x {word}")
        # the first one counts
        self.wrong(0, 0, "0 X ?")
        self.wrong(0, 1, "1 X ?")
        self.wrong(0, 1, "1 X 1 more")
        self.wrong(0, 0, "0")

    def test_words_that_are_lacking(self):
        self.wrong(0, 1, "1")
        self.wrong(0, 2, "1 x")
        self.wrong(2, 2, "1 x 1\n1 x 1\n1 x")
        self.wrong(1, 1, "never\n1", read_bound)

    def test_words_too_many(self):
        self.wrong(0, 3, "1 x 1 1")
        self.wrong(0, 3, "1 x 1 ")
        self.wrong(0, 1, "never 1", read_bound)
        self.wrong(0, 1, "1 ", read_bound)
        self.wrong(1, 2, "1\n1 10 10", read_bound)
        self.wrong(0, 1, "never  ", read_bound)

    def test_two_spaces_in_a_row(self):
        self.wrong(0, 1, "1  x 1")
        self.wrong(0, 2, "1 x  1")
        self.wrong(0, 0, " 1 x 1")
        self.wrong(0, 0, " never", read_bound)
        self.wrong(1, 1, "never\n1  10", read_bound)
        self.wrong(0, 0, " ")

    def test_empty_lines_and_a_last_newline(self):
        self.wrong(1, 0, "1 x 1\n")
        self.wrong(1, 0, "1 x 1\n\n1 x 1")
        self.wrong(0, 0, "\n1 x 1")
        self.wrong(0, 0, "\n")
        self.wrong(1, 0, "never\n", read_bound)
        self.wrong(0, 0, "\nnever", read_bound)
        self.wrong(2, 0, "3\n1 10\n\n1 10", read_bound)

    def test_the_first_wrong_line_counts(self):
        self.wrong(1, 2, "1 x 1\n1 x ?\n0 x 1")
        self.wrong(0, 0, "0\nx", read_bound)
        self.wrong(1, 0, "5\n0 10\n1 ?", read_bound)

    def test_wrong_words_of_bounds(self):
        for word in WRONG_NUMBERS:
            if word != "never":
                self.wrong(0, 0, word, read_bound)
                self.wrong(0, 0, word + "\n1 10", read_bound)
            self.wrong(1, 0, f"never\n{word} 10", read_bound)
        for word in WRONG_NAMES:
            self.wrong(1, 1, f"never\n1 {word}", read_bound)
        for word in ("Never", "NEVER", "neverx", "None", "-"):
            self.wrong(0, 0, word, read_bound)

    def test_bounds_of_numbers(self):
        for number in (1, 9, 10, 999999, 10 ** 6):
            self.assert_same(read_rows(f"{number} x 1"), ((number, "x", ("own", 1)),))
            self.assert_same(read_bound(f"{number}\n{number} 10"), (number, ((number, ("own", 10)),)))

    def test_words_of_thousands_of_figures(self):
        for figures in (10, 4301, 19000):
            self.wrong(0, 0, "1" * figures + " x 1")
            self.wrong(0, 0, "1" * figures, read_bound)
            self.wrong(0, 2, "1 x " + "1" * figures)
            self.wrong(0, 2, "1 x a(" + "1" * figures)
            self.wrong(0, 2, "1 x " + "a(" * figures)
            self.wrong(0, 1, "1 " + "x" * figures + " 1")

    def test_long_texts(self):
        text = "\n".join(["1 x a(b(c(10|1?)))"] * 1000)
        self.assertEqual(len(read_rows(text)), 1000)
        self.wrong(1000, 0, text + "\n")

    def test_other_signs_are_no_figures_and_no_letters(self):
        for word in ("\u0661", "\u00b2", "\u00e9"):
            self.wrong(0, 0, word + " x 1")
            self.wrong(0, 1, "1 " + word + " 1")
            self.wrong(0, 2, "1 x " + word)

    def test_texts_are_read_back(self):
        worlds = list(WORLDS) + [random_world(random.Random(seed), gates=5, hosts=5) for seed in range(30)]
        for world in worlds:
            for x in world.hosts:
                for y in world.hosts:
                    word, rows = reach(world, x, y)
                    if word == "heard":
                        self.assert_same(read_rows(show_rows(rows)), rows)
                        self.assert_same(read_rows(show_rows(list(rows)[::-1])), rows[::-1])
                    bound = late(world, x, y)
                    self.assert_same(read_bound(show_bound(bound)), bound)

    def test_texts_of_what_is_read(self):
        for text in ("1 x 1", "2 y a(10|1)\n1 x 7?", "5 zz a(b(c(10|1?)|b(5))|c(b(a(1))))"):
            self.assert_same(show_rows(read_rows(text)), text)
        for text in ("never", "4", "4\n1 a(10)\n2 b(a(3)|4?)"):
            self.assert_same(show_bound(read_bound(text)), text)


if __name__ == "__main__":
    unittest.main()
