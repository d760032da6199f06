"""Kinds of gates ([5], [13])."""

import itertools
import unittest

from meetbehind.errors import InvalidKind, InvalidText
from meetbehind.kinds import Kind
from tests.samples import any_values, Checks, values_but

LENDS = ("both", "far", "one")
LETS = ("both", "far", "any")
RESTS = (2, 3, 999999, 1000000, None)


def all_kinds():
    return [Kind(lends, lets, turns=turns, rests=rests)
            for lends, lets, turns, rests in itertools.product(LENDS, LETS, (False, True), RESTS)]


class KindTest(Checks, unittest.TestCase):

    def test_parts(self):
        kind = Kind("one", "far", turns=True, rests=30)
        self.assert_same((kind.lends, kind.lets, kind.turns, kind.rests), ("one", "far", True, 30))
        kind = Kind(lets="any", lends="both")
        self.assert_same((kind.lends, kind.lets, kind.turns, kind.rests), ("both", "any", False, None))

    def test_class_values(self):
        self.assert_same(Kind.LENDS, LENDS)
        self.assert_same(Kind.LETS, LETS)

    def test_parts_are_only_read(self):
        kind = Kind("one", "far")
        for name in ("lends", "lets", "turns", "rests"):
            with self.assertRaises(AttributeError):
                setattr(kind, name, None)

    def test_turns_and_rests_by_name_only(self):
        with self.assertRaises(TypeError):
            Kind("one", "any", True)

    def test_wrong_parts(self):
        for value in values_but(["one"]) + ["any", "One", "on", "both/any"]:
            self.assert_raises(InvalidKind, {"place": 0}, Kind, value, "any")
        for value in any_values() + ["one", "Any", "any turns"]:
            self.assert_raises(InvalidKind, {"place": 1}, Kind, "one", value)
        for value in values_but([True, False]):
            self.assert_raises(InvalidKind, {"place": 2}, Kind, "one", "any", turns=value)
        for value in values_but([None, 2, 5, 10, 99, 100]) + [1000001, -2, "2"]:
            self.assert_raises(InvalidKind, {"place": 3}, Kind, "one", "any", rests=value)

    def test_the_bounds_of_rests(self):
        self.assertEqual(Kind("one", "any", rests=2).rests, 2)
        self.assertEqual(Kind("one", "any", rests=10 ** 6).rests, 10 ** 6)
        for rests in (0, 1, 10 ** 6 + 1, 10 ** 59, True):
            self.assert_raises(InvalidKind, {"place": 3}, Kind, "one", "any", rests=rests)

    def test_the_first_of_several_errors(self):
        self.assert_raises(InvalidKind, {"place": 0}, Kind, 1, 1, turns=1, rests=1)
        self.assert_raises(InvalidKind, {"place": 1}, Kind, "one", 1, turns=1, rests=1)
        self.assert_raises(InvalidKind, {"place": 2}, Kind, "one", "any", turns=1, rests=1)

    def test_equal(self):
        kinds = all_kinds()
        for at, one in enumerate(kinds):
            for other_at, other in enumerate(all_kinds()):
                self.assertIs(one == other, at == other_at)
                self.assertIs(one != other, at != other_at)
        for value in values_but([Kind("one", "any")]):
            self.assertIs(Kind("one", "any") == value, False)
        self.assertIs(Kind("one", "any") == "one/any", False)

    def test_looser_and_stricter(self):
        def better(order, pick, one, two):
            return order[pick(order.index(one), order.index(two))]

        for one, two in itertools.product(all_kinds()[::3], all_kinds()[::2]):
            for got, pick in ((one | two, max), (one & two, min)):
                self.assertEqual(got.lends, better(LENDS, pick, one.lends, two.lends))
                self.assertEqual(got.lets, better(LETS, pick, one.lets, two.lets))
                self.assert_same(got.turns, better((False, True), pick, one.turns, two.turns))
                self.assert_same(got.rests, better(RESTS, pick, one.rests, two.rests))
            self.assertIs(one.within(two), (one | two) == two)
            self.assertIs(one.within(two), (one & two) == one)

    def test_within_goes_by_each_part(self):
        low = Kind("both", "both", rests=2)
        self.assertIs(low.within(low), True)
        for looser in (Kind("far", "both", rests=2), Kind("both", "far", rests=2), Kind("both", "both", rests=3),
                       Kind("both", "both", turns=True, rests=2), Kind("both", "both")):
            self.assertIs(low.within(other=looser), True)
            self.assertIs(looser.within(low), False)
        self.assertIs(Kind("one", "both").within(Kind("both", "any")), False)

    def test_texts(self):
        self.assertEqual(str(Kind("one", "any")), "one/any")
        self.assertEqual(str(Kind("far", "both", turns=True)), "far/both turns")
        self.assertEqual(str(Kind("both", "far", rests=30)), "both/far rests 30")
        self.assertEqual(str(Kind("one", "any", turns=True, rests=2)), "one/any turns rests 2")
        self.assertEqual(repr(Kind("one", "any", turns=True, rests=2)), "Kind(one/any turns rests 2)")
        self.assertEqual(str(Kind("one", "far", rests=30) & Kind("far", "any", turns=True)), "far/far rests 30")

    def test_read_tells_what_was_written(self):
        for kind in all_kinds():
            self.assertEqual(Kind.read(str(kind)), kind)
            self.assertEqual(Kind.read(text=str(kind)), kind)

    def test_read_wrong_texts(self):
        for text, word in (
                ("", 0), (" ", 0), (" one/any", 0), ("one", 0), ("one/", 0), ("/any", 0), ("one/any/", 0),
                ("one/one", 0), ("any/any", 0), ("One/any", 0), ("one/any\n", 0), ("\none/any", 0), ("one /any", 0),
                ("turns", 0), ("one/any ", 1), ("one/any  turns", 1), ("one/any turn", 1), ("one/any turns\n", 1),
                ("one/any rest", 1), ("one/any\nturns", 0), ("one/any one/any", 1), ("one/any 5", 1),
                ("one/any turns turns", 2), ("one/any rests", 2), ("one/any rests ", 2), ("one/any rests 1", 2),
                ("one/any rests 0", 2), ("one/any rests 02", 2), ("one/any rests 1000001", 2),
                ("one/any rests 9999999", 2), ("one/any rests -2", 2), ("one/any rests +2", 2),
                ("one/any rests 2\n", 2), ("one/any rests 1_0", 2), ("one/any rests x", 2),
                ("one/any rests " + "9" * 19000, 2), ("one/any rests " + "0" * 5000 + "2", 2),
                ("one/any rests turns", 2), ("one/any turns rests", 3), ("one/any rests 2 turns", 3),
                ("one/any rests 2 ", 3), ("one/any rests 2 rests 2", 3), ("one/any turns  rests 2", 2),
                ("one/any turns rests 2 x", 4), ("9" * 20000, 0), ("one/any" + " " * 10000, 1)):
            self.assert_raises(InvalidText, {"line": 0, "word": word}, Kind.read, text)

    def test_read_takes_strings_only(self):
        for value in values_but(["one/any"]) + [None, 5, ("one/any",), ["one/any"], Kind("one", "any")]:
            if not isinstance(value, str):
                self.assert_raises(InvalidText, {"line": 0, "word": 0}, Kind.read, value)


if __name__ == "__main__":
    unittest.main()
