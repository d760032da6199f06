"""Least sets and their blockers ([31])."""

import itertools
import random
import unittest

from meetbehind.errors import TooMany
from meetbehind.families import blockers, least_sets
from tests.samples import Checks


def in_order(sets):
    return tuple(sorted((tuple(sorted(part)) for part in sets), key=lambda part: (len(part), part)))


def parts_of(items):
    return [set(part) for many in range(len(items) + 1) for part in itertools.combinations(items, many)]


def least_of(items, holds):
    """The least sets, by looking at all sets."""
    good = [part for part in parts_of(items) if holds(tuple(sorted(part)))]
    return in_order([part for part in good if not any(other < part for other in good)])


def blockers_of(sets):
    """The blockers, by looking at all sets."""
    items = sorted({item for part in sets for item in part})
    return least_of(items, lambda chosen: all(set(chosen) & set(part) for part in sets))


def random_sets(rng, items="abcdefgh"):
    return [tuple(rng.sample(items, rng.randint(1, len(items)))) for _ in range(rng.randint(0, 6))]


class LeastSetsTest(Checks, unittest.TestCase):

    def test_what_holds_always_and_never(self):
        for items in ((), ("a",), ["b", "a"], tuple("abcdefgh")):
            self.assert_same(least_sets(items, lambda part: True), ((),))
            self.assert_same(least_sets(items, lambda part: False), ())

    def test_no_items(self):
        asked = []

        def holds(part):
            asked.append(part)
            return True
        self.assert_same(least_sets((), holds), ((),))
        self.assertEqual(asked, [()])
        self.assert_same(least_sets(items=[], holds=lambda part: False), ())

    def test_some_sets(self):
        self.assert_same(least_sets(("a", "b", "c"), lambda part: "b" in part), (("b",),))
        self.assert_same(least_sets(["c", "b", "a"], lambda part: len(part) > 1), (("a", "b"), ("a", "c"), ("b", "c")))
        self.assert_same(least_sets(("c", "b", "a"), lambda part: "c" in part or "a" in part and "b" in part),
                         (("c",), ("a", "b")))
        self.assert_same(least_sets(("a", "b"), lambda part: len(part) == 2), (("a", "b"),))
        self.assert_same(least_sets(("", "Z", "a b", "\n"), lambda part: "" in part or "\n" in part), (("",), ("\n",)))

    def test_holds_gets_ascending_tuples_of_items(self):
        asked = []

        def holds(part):
            asked.append(part)
            return "d" in part and ("b" in part or "c" in part)
        self.assert_same(least_sets(["d", "b", "c", "a"], holds), (("b", "d"), ("c", "d")))
        for part in asked:
            self.assertIs(part.__class__, tuple)
            self.assertEqual(list(part), sorted(set(part)))
            self.assertLessEqual(set(part), set("abcd"))
        self.assertEqual(len(asked), len(set(asked)))

    def test_what_counts_as_true(self):
        for right, wrong in ((1, 0), ("no", ""), ([0], []), ((None,), ()), (True, None), ({1: 1}, {}), (-1, set())):
            self.assert_same(least_sets(("a", "b"), lambda part: right if "a" in part else wrong), (("a",),))

    def test_eight_items_and_nine(self):
        eight = tuple("hgfedcba")
        self.assert_same(least_sets(eight, lambda part: len(part) == 8), (tuple("abcdefgh"),))
        self.assertEqual(len(least_sets(list(eight), lambda part: len(part) >= 4)), 70)
        for nine in (tuple("abcdefghi"), list("abcdefghi"), tuple("abcdefghijkl")):
            self.assert_raises(TooMany, {"limit": 8}, least_sets, nine, lambda part: self.fail("asked"))

    def test_what_holds_raises_goes_on(self):
        class Odd(Exception):
            pass

        def holds(part):
            raise Odd()
        with self.assertRaises(Odd):
            least_sets(("a",), holds)

    def test_the_items_stay_as_they_are(self):
        items = ["c", "a", "b"]
        least_sets(items, lambda part: len(part) > 1)
        self.assertEqual(items, ["c", "a", "b"])

    def test_random_families(self):
        for seed in range(300):
            rng = random.Random(seed)
            sets = random_sets(rng, "abcdefgh"[:rng.randint(1, 8)])
            items = sorted({item for part in sets for item in part} | {"a"})
            rng.shuffle(items)

            def holds(part):
                return any(set(one) <= set(part) for one in sets)
            least = least_sets(tuple(items), holds)
            self.assert_same(least, least_of(items, holds))
            # all sets whose complement contains a blocker fail, and no others
            for part in parts_of(items):
                rest = set(items) - part
                fails = any(set(blocker) <= rest for blocker in blockers(least))
                self.assertEqual(fails, not holds(tuple(sorted(part))))


class BlockersTest(Checks, unittest.TestCase):

    def test_the_example(self):
        self.assert_same(blockers((("a",), ("b", "c"))), (("a", "b"), ("a", "c")))

    def test_no_sets_and_the_empty_set(self):
        self.assert_same(blockers(()), ((),))
        self.assert_same(blockers(sets=[]), ((),))
        self.assert_same(blockers(((),)), ())
        self.assert_same(blockers((("a", "b"), (), ("c",))), ())
        self.assert_same(blockers([(), ()]), ())

    def test_sets_twice_within_others_and_in_any_order(self):
        expected = (("a", "b"), ("a", "c"))
        for sets in ((("b", "c"), ("a",)), (("c", "b"), ("a",), ("b", "c")), (("a",), ("a", "b"), ("b", "c"), ("a", "b", "c")),
                     [("a", "a"), ("c", "b", "c")], (("a",), ("a",), ("b", "c"), ("c", "b"))):
            self.assert_same(blockers(sets), expected)

    def test_some_sets(self):
        self.assert_same(blockers((("a", "b", "c"),)), (("a",), ("b",), ("c",)))
        self.assert_same(blockers((("c",), ("a",), ("b",))), (("a", "b", "c"),))
        self.assert_same(blockers((("b", "a"), ("b", "c"))), (("b",), ("a", "c")))
        self.assert_same(blockers((("", "x"),)), (("",), ("x",)))

    def test_all_sets_of_four_of_eight(self):
        sets = tuple(itertools.combinations("abcdefgh", 4))
        self.assert_same(blockers(sets), tuple(itertools.combinations("abcdefgh", 5)))

    def test_random_sets(self):
        for seed in range(400):
            sets = random_sets(random.Random(seed))
            self.assert_same(blockers(sets), blockers_of(sets))
            self.assert_same(blockers(tuple(sets)), blockers_of(sets))

    def test_blockers_of_blockers(self):
        for seed in range(200):
            sets = random_sets(random.Random(seed), "abcdef")
            least = in_order([part for part in {frozenset(part) for part in sets}
                              if not any(set(other) < part for other in sets)])
            self.assert_same(blockers(blockers(sets)), least)


if __name__ == "__main__":
    unittest.main()
