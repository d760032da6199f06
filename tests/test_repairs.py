"""Gates that must be looser ([23])."""

import itertools
import random
import unittest

from meetbehind.closure import Closure
from meetbehind.errors import NoStation
from meetbehind.families import blockers
from meetbehind.kinds import Kind
from meetbehind.repairs import opened, repairs
from meetbehind.worlds import World
from tests.model import random_world
from tests.samples import any_values, BIG, Checks, CHAIN, DEEP, DRIFT, INNER, ONE, SIX, STRICT, TALKERS, values_but

LOOSE = Kind("one", "any", turns=True)
WORLDS = (ONE, STRICT, INNER, CHAIN, DEEP, SIX, DRIFT, TALKERS)


def slow_repairs(world, x, y):
    """The least sets, by looking at all sets of gates."""
    good = []
    for many in range(len(world.gates) + 1):
        for part in itertools.combinations(world.gates, many):
            other = World(*[one[:4] + (LOOSE,) if one[1] in part else one for one in world.parts])
            if not any(set(less) <= set(part) for less in good) and Closure(other).heard(x, y):
                good.append(part)
    return tuple(good)


class RepairsTest(Checks, unittest.TestCase):

    def test_the_example(self):
        self.assert_same(repairs(ONE.with_kind("b", Kind("both", "both")), "x", "y"), (("a",), ("b",)))
        self.assert_same(repairs(world=STRICT, x="x", y="y"), (("a",), ("b",)))

    def test_y_hears_x_already(self):
        self.assert_same(repairs(ONE, "x", "y"), ((),))
        self.assert_same(repairs(STRICT, "x", "x"), ((),))
        self.assert_same(repairs(World(("host", "x", "", 1), ("host", "y", "", 2)), "x", "y"), ((),))

    def test_no_set_does_it(self):
        # nobody can tell a name
        self.assert_same(repairs(STRICT.without("p"), "x", "y"), ())
        self.assert_same(repairs(World(("gate", "a", "", 5, LOOSE), ("host", "x", "a", 1), ("host", "y", "", 2)), "y", "x"),
                         ((),))
        # x never leaves its realm: the address of y is that of z there
        world = World(("gate", "a", "", 5, LOOSE), ("host", "x", "a", 10), ("host", "z", "a", 2), ("host", "y", "", 2))
        self.assert_same(repairs(world, "x", "y"), ())

    def test_other_gates_keep_their_kinds(self):
        # with the strictest kind of a one gate is not enough
        shut = STRICT.with_kind("a", Kind("both", "both"))
        self.assert_same(repairs(shut, "x", "y"), slow_repairs(shut, "x", "y"))
        self.assert_same(repairs(DRIFT.with_kind("b", Kind("both", "both")), "x", "y"), ((),))
        self.assert_same(repairs(shut.with_part(("gate", "c", "", 9, LOOSE)), "x", "y"), repairs(shut, "x", "y"))

    def test_all_worlds(self):
        for world in WORLDS:
            for x in world.hosts:
                for y in world.hosts:
                    self.assert_same(repairs(world, x, y), slow_repairs(world, x, y))
        for x, y in (("s", "z"), ("z", "s"), ("x", "t")):
            self.assert_same(repairs(BIG, x, y), slow_repairs(BIG, x, y))

    def test_random_worlds(self):
        sizes = []
        for seed in range(60):
            rng = random.Random(seed)
            world = random_world(rng, gates=5, hosts=4, last=14)
            for _ in range(3):
                x, y = rng.choice(world.hosts), rng.choice(world.hosts)
                found = repairs(world, x, y)
                self.assert_same(found, slow_repairs(world, x, y))
                sizes += [len(part) for part in found]
        self.assertGreater(len(set(sizes)), 2)

    def test_while_a_blocker_stays_as_it_is_y_never_hears_x(self):
        kinds = [Kind(lends, lets, turns=turns) for lends in Kind.LENDS for lets in Kind.LETS for turns in (False, True)]
        for seed in range(60):
            rng = random.Random(seed)
            world = random_world(rng, gates=4, hosts=4, last=14)
            x, y = rng.choice(world.hosts), rng.choice(world.hosts)
            for part in blockers(repairs(world, x, y)):
                for _ in range(4):
                    other = world
                    for gate in world.gates:
                        if gate not in part:
                            other = other.with_kind(gate, rng.choice(kinds))
                    self.assertFalse(Closure(other).heard(x, y))
                for gate in part:
                    fewer = [name for name in world.gates if name not in part or name == gate]
                    self.assertTrue(Closure(opened(world, fewer)).heard(x, y))

    def test_wrong_hosts_in_their_order(self):
        for value in values_but(["x", "y", "p"]):
            self.assert_raises(NoStation, {"name": value}, repairs, ONE, value, "x")
            self.assert_raises(NoStation, {"name": value}, repairs, STRICT, "x", value)
            self.assert_raises(NoStation, {"name": value}, repairs, STRICT, value, None)


class OpenedTest(Checks, unittest.TestCase):

    def test_some_gates(self):
        for gates in (("b",), ["b"], {"b"}, ("b", "b"), ["b", "b", "b"]):
            world = opened(STRICT, gates)
            self.assertEqual(world.parts, (STRICT.parts[0], ("gate", "b", "", 7, LOOSE)) + STRICT.parts[2:])
        for gates in (("a", "b"), ["b", "a"], {"a", "b"}, ["b", "a", "b"]):
            world = opened(world=STRICT, gates=gates)
            self.assertEqual(world.parts, (("gate", "a", "", 5, LOOSE), ("gate", "b", "", 7, LOOSE)) + STRICT.parts[2:])
            self.assertEqual([world.kind(gate) for gate in "ab"], [LOOSE, LOOSE])
        self.assertEqual(str(STRICT.kind("b")), "both/both")

    def test_no_gates(self):
        for gates in ((), [], set()):
            self.assertEqual(opened(STRICT, gates).parts, STRICT.parts)
        self.assertEqual(opened(World(), ()), World())

    def test_the_order_of_the_parts(self):
        mixed = World(("host", "x", "", 3), ("gate", "b", "", 7, Kind("one", "any", rests=20)), ("gate", "a", "b", 5, LOOSE))
        self.assertEqual(opened(mixed, ["b", "a"]).parts,
                         (("host", "x", "", 3), ("gate", "b", "", 7, LOOSE), ("gate", "a", "b", 5, LOOSE)))

    def test_values_that_are_no_gates(self):
        for value in values_but(["a", "b"]):
            self.assert_raises(NoStation, {"name": value}, opened, ONE, (value,))
            self.assert_raises(NoStation, {"name": value}, opened, ONE, ["a", value, value])
        for value in any_values():
            if isinstance(value, str) and value not in ("a", "b"):
                self.assert_raises(NoStation, {"name": value}, opened, ONE, {value, "b"})

    def test_the_first_in_the_order_of_the_texts_of_reprs(self):
        self.assert_raises(NoStation, {"name": 10}, opened, ONE, (2, 10, None))
        self.assert_raises(NoStation, {"name": "c"}, opened, ONE, ["q", "c", "d", "a"])
        self.assert_raises(NoStation, {"name": "x"}, opened, ONE, {"x", "y", "b"})
        self.assert_raises(NoStation, {"name": ""}, opened, ONE, ("x", "", "a"))
        self.assert_raises(NoStation, {"name": ("a",)}, opened, ONE, [["a"], ("a",), 1])
        self.assert_raises(NoStation, {"name": None}, opened, ONE, [["a"], True, None])


if __name__ == "__main__":
    unittest.main()
