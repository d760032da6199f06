"""With which kinds of a gate a host hears another one ([32])."""

import itertools
import random
import unittest

from meetbehind.closure import Closure
from meetbehind.errors import NoStation
from meetbehind.gatekinds import kinds_for, shown_kinds, shows_kinds
from meetbehind.kinds import Kind
from meetbehind.late import late
from meetbehind.latecheck import shows_late
from meetbehind.plancheck import shows_plan
from meetbehind.plans import reach
from meetbehind.worlds import World
from tests.model import NameModel, random_world
from tests.samples import (any_values, BIG, Checks, CHAIN, DEEP, DRIFT, INNER, ONE, SIX, some_changed, STRICT, TALKERS,
                           values_but)

KINDS = [Kind(lends, lets, turns=turns) for lends in Kind.LENDS for lets in Kind.LETS for turns in (False, True)]
WORLDS = (ONE, STRICT, INNER, CHAIN, DEEP, DRIFT, TALKERS, SIX)


def slow_kinds(world, gate, x, y):
    """The texts of the least kinds and of the greatest failing ones, by looking at all."""
    heard = [Closure(world.with_kind(gate, kind)).heard(x, y) for kind in KINDS]
    least = [kind for kind, good in zip(KINDS, heard) if good
             and not any(other.within(kind) and other != kind for other, well in zip(KINDS, heard) if well)]
    failing = [kind for kind, good in zip(KINDS, heard) if not good
               and not any(kind.within(other) and other != kind for other, well in zip(KINDS, heard) if not well)]
    return [sorted(str(kind) for kind in part) for part in (least, failing)]


def by_the_words(world, gate, x, y, thing):
    """Whether a value shows the kinds, by the words of the document and the slow model."""
    if thing.__class__ is not tuple or len(thing) != 2:
        return False
    for pairs in thing:
        if pairs.__class__ is not tuple:
            return False
        for pair in pairs:
            if pair.__class__ is not tuple or len(pair) != 2 or pair[0].__class__ is not Kind or pair[0].rests is not None:
                return False
        kinds = [kind for kind, _ in pairs]
        if any(one.within(two) for one, two in itertools.permutations(kinds, 2)):
            return False
    plans, bounds = thing
    for kind, rows in plans:
        if not NameModel(world.with_kind(gate, kind)).shows_plan(x, y, rows):
            return False
    for kind, bound in bounds:
        if not NameModel(world.with_kind(gate, kind)).shows_bound(x, y, bound) or bound[0] is not None:
            return False
    return all(any(one.within(kind) for one, _ in plans) or any(kind.within(one) for one, _ in bounds) for kind in KINDS)


def questions(world):
    return [(gate, x, y) for gate in world.gates for x in world.hosts for y in world.hosts]


class KindsForTest(Checks, unittest.TestCase):

    def test_the_example(self):
        least, failing = kinds_for(ONE, "b", "x", "y")
        self.assertEqual([str(kind) for kind in least], ["both/far"])
        self.assertEqual([str(kind) for kind in failing], ["one/both turns"])
        self.assertEqual(kinds_for(world=ONE, gate="b", x="x", y="y"), (least, failing))

    def test_y_hears_x_with_each_kind_or_with_none(self):
        self.assertEqual(kinds_for(ONE, "b", "x", "p"), ((Kind("both", "both"),), ()))
        self.assertEqual(kinds_for(ONE, "b", "x", "x"), ((Kind("both", "both"),), ()))
        self.assertEqual(kinds_for(ONE.without("p"), "b", "x", "y"), ((), (Kind("one", "any", turns=True),)))

    def test_several_kinds_sorted_by_text(self):
        # x hears y if a lets in all, or lends one port for all and is open for 7
        least, failing = kinds_for(ONE, "a", "y", "x")
        self.assertEqual([[str(kind) for kind in part] for part in (least, failing)], slow_kinds(ONE, "a", "y", "x"))
        self.assertGreater(len(least), 1)
        # "any" stands before "both" by text, though it is looser
        world = World.read("gate a - 14 far/both\ngate b a 9 both/both turns\nhost s b 13\nhost t - 11\nhost u a 13")
        texts = [[str(kind) for kind in part] for part in kinds_for(world, "a", "u", "s")]
        self.assertEqual(texts[1], ["both/any turns", "far/far turns", "one/any", "one/both turns"])
        self.assertEqual(texts, slow_kinds(world, "a", "u", "s"))

    def test_the_kind_in_the_world_means_nothing(self):
        expected = kinds_for(ONE, "b", "x", "y")
        for kind in KINDS + [Kind("one", "any", rests=2), Kind("both", "both", turns=True, rests=10 ** 6)]:
            self.assertEqual(kinds_for(ONE.with_kind("b", kind), "b", "x", "y"), expected)

    def test_none_of_the_kinds_rests(self):
        for world in WORLDS:
            for gate, x, y in questions(world)[::7]:
                for kind in sum(kinds_for(world, gate, x, y), ()):
                    self.assertIs(kind.__class__, Kind)
                    self.assertIsNone(kind.rests)

    def test_other_gates_keep_their_kinds(self):
        self.assertNotEqual(kinds_for(STRICT, "a", "x", "y"), kinds_for(ONE, "a", "x", "y"))

    def test_all_worlds(self):
        for world in WORLDS[:6]:
            for gate, x, y in questions(world):
                found = [[str(kind) for kind in part] for part in kinds_for(world, gate, x, y)]
                self.assertEqual(found, slow_kinds(world, gate, x, y))

    def test_random_worlds(self):
        many = set()
        for seed in range(80):
            rng = random.Random(seed)
            world = random_world(rng, gates=5, hosts=4, last=14)
            for gate, x, y in rng.sample(questions(world), min(3, len(questions(world)))):
                found = [[str(kind) for kind in part] for part in kinds_for(world, gate, x, y)]
                self.assertEqual(found, slow_kinds(world, gate, x, y))
                many.add(tuple(len(part) for part in found))
        self.assertGreater(len(many), 2)

    def test_errors_in_their_order(self):
        for value in values_but(["a", "b"]):
            for ask in (kinds_for, shown_kinds, lambda *given: shows_kinds(*given, None)):
                self.assert_raises(NoStation, {"name": value}, ask, ONE, value, None, None)
        for value in values_but(["x", "y", "p"]):
            for ask in (kinds_for, shown_kinds, lambda *given: shows_kinds(*given, None)):
                self.assert_raises(NoStation, {"name": value}, ask, ONE, "b", value, None)
                self.assert_raises(NoStation, {"name": value}, ask, ONE, "b", "x", value)


class ShownKindsTest(Checks, unittest.TestCase):

    def check(self, world, gate, x, y):
        least, failing = kinds_for(world, gate, x, y)
        thing = shown_kinds(world, gate, x, y)
        self.assertEqual(len(thing), 2)
        plans, bounds = thing
        self.assertEqual((tuple(kind for kind, _ in plans), tuple(kind for kind, _ in bounds)), (least, failing))
        for kind, rows in plans:
            self.assert_same(rows, reach(world.with_kind(gate, kind), x, y)[1])
            self.assertIs(shows_plan(world.with_kind(gate, kind), x, y, rows), True)
        for kind, bound in bounds:
            self.assertIsNone(bound[0])
            self.assertIs(shows_late(world.with_kind(gate, kind), x, y, bound), True)
        self.assertIs(shows_kinds(world, gate, x, y, thing), True)
        self.assertTrue(by_the_words(world, gate, x, y, thing))

    def test_words(self):
        other = Kind("one", "both", turns=True)
        expected = (((Kind("both", "far"), reach(ONE, "x", "y")[1]),), ((other, late(ONE.with_kind("b", other), "x", "y")),))
        self.assertEqual(shown_kinds(ONE, "b", "x", "y"), expected)
        self.assertEqual(shown_kinds(world=ONE, gate="b", x="x", y="y"), expected)

    def test_all_worlds(self):
        for world in WORLDS[:6]:
            for gate, x, y in questions(world):
                self.check(world, gate, x, y)
        for gate, x, y in (("a", "s", "z"), ("b", "z", "s"), ("f", "x", "t")):
            self.check(BIG, gate, x, y)

    def test_random_worlds(self):
        for seed in range(60):
            rng = random.Random(seed)
            world = random_world(rng, gates=5, hosts=4, last=14)
            for gate, x, y in rng.sample(questions(world), min(3, len(questions(world)))):
                self.check(world, gate, x, y)


class ShowsKindsTest(Checks, unittest.TestCase):

    def setUp(self):
        # two least kinds and two failing ones
        self.case = (ONE, "a", "y", "x")
        self.plans, self.bounds = shown_kinds(*self.case)
        self.assertGreater(len(self.plans), 1)

    def shown(self, plans, bounds):
        found = shows_kinds(*self.case, (plans, bounds))
        self.assertIs(found, by_the_words(*self.case, (plans, bounds)))
        return found

    def test_by_name(self):
        self.assertIs(shows_kinds(world=ONE, gate="a", x="y", y="x", thing=(self.plans, self.bounds)), True)

    def test_pairs_in_any_order(self):
        for plans in itertools.permutations(self.plans):
            for bounds in itertools.permutations(self.bounds):
                self.assertIs(self.shown(plans, bounds), True)

    def test_the_two_tuples_stand_in_their_order(self):
        self.assertIs(self.shown(self.bounds, self.plans), False)

    def test_a_kind_twice(self):
        for at in range(len(self.plans)):
            self.assertIs(self.shown(self.plans + (self.plans[at],), self.bounds), False)
        for at in range(len(self.bounds)):
            self.assertIs(self.shown(self.plans, self.bounds + (self.bounds[at],)), False)

    def test_one_kind_within_another_one(self):
        for kind in KINDS:
            other = ONE.with_kind("a", kind)
            if Closure(other).heard("y", "x"):
                plans = self.plans + ((kind, reach(other, "y", "x")[1]),)
                self.assertIs(self.shown(plans, self.bounds), False)
                self.assertIs(self.shown(plans[::-1], self.bounds), False)
            else:
                bounds = self.bounds + ((kind, late(other, "y", "x")),)
                self.assertIs(self.shown(self.plans, bounds), False)
                self.assertIs(self.shown(self.plans, bounds[::-1]), False)

    def test_a_kind_that_rests(self):
        for rests in (2, 10 ** 6):
            for at, (kind, rows) in enumerate(self.plans):
                other = Kind(kind.lends, kind.lets, turns=kind.turns, rests=rests)
                plans = self.plans[:at] + ((other, rows),) + self.plans[at + 1:]
                self.assertIs(self.shown(plans, self.bounds), False)
                self.assertIs(self.shown(self.plans + ((other, rows),), self.bounds), False)
            for at, (kind, bound) in enumerate(self.bounds):
                other = Kind(kind.lends, kind.lets, turns=kind.turns, rests=rests)
                bounds = self.bounds[:at] + ((other, bound),) + self.bounds[at + 1:]
                self.assertIs(self.shown(self.plans, bounds), False)

    def test_a_kind_left_out(self):
        for at in range(len(self.plans)):
            self.assertIs(self.shown(self.plans[:at] + self.plans[at + 1:], self.bounds), False)
        for at in range(len(self.bounds)):
            self.assertIs(self.shown(self.plans, self.bounds[:at] + self.bounds[at + 1:]), False)
        self.assertIs(self.shown((), ()), False)

    def test_kinds_that_are_none_of_the_least_and_greatest(self):
        # one of the 18 is lacking if a kind that is looser than need be stands for a least one
        for at, (kind, _) in enumerate(self.plans):
            for looser in [one for one in KINDS if kind.within(one) and one != kind]:
                pair = (looser, reach(ONE.with_kind("a", looser), "y", "x")[1])
                self.assertIs(self.shown(self.plans[:at] + (pair,) + self.plans[at + 1:], self.bounds), False)

    def test_plans_and_bounds_that_are_wrong(self):
        for at, (kind, rows) in enumerate(self.plans):
            for other in (rows[:-1], rows[1:], (), list(rows), None, rows + rows):
                plans = self.plans[:at] + ((kind, other),) + self.plans[at + 1:]
                self.assertIs(self.shown(plans, self.bounds), False)
            # a plan that takes more rounds is one, too
            later = rows + ((9,) + rows[-1][1:],)
            self.assertIs(self.shown(self.plans[:at] + ((kind, later),) + self.plans[at + 1:], self.bounds), True)
        for at, (kind, bound) in enumerate(self.bounds):
            for other in ((1, ()), (9,) + bound[1:], (None, bound[1][1:]), list(bound), None):
                bounds = self.bounds[:at] + ((kind, other),) + self.bounds[at + 1:]
                self.assertIs(self.shown(self.plans, bounds), False)
            mixed = (kind, (None, bound[1][::-1]))
            self.assertIs(self.shown(self.plans, self.bounds[:at] + (mixed,) + self.bounds[at + 1:]), True)

    def test_all_or_nothing(self):
        right = shown_kinds(ONE, "b", "x", "p")
        self.assertEqual(right[1], ())
        self.assertIs(shows_kinds(ONE, "b", "x", "p", right), True)
        self.assertIs(shows_kinds(ONE, "b", "x", "p", ((), ())), False)
        right = shown_kinds(ONE.without("p"), "b", "x", "y")
        self.assertEqual(right[0], ())
        self.assertIs(shows_kinds(ONE.without("p"), "b", "x", "y", right), True)
        self.assertIs(shows_kinds(ONE, "b", "x", "y", right), False)

    def test_changed_parts(self):
        rng = random.Random(1)
        for world in WORLDS[:6]:
            for gate, x, y in questions(world)[::3]:
                right = shown_kinds(world, gate, x, y)
                for side in range(2):
                    for at, (kind, shown) in enumerate(right[side]):
                        others = [(kind, other) for other in some_changed(shown, rng, 6)]
                        others += [(other, shown) for other in rng.sample(KINDS, 3)]
                        for pair in others:
                            pairs = right[side][:at] + (pair,) + right[side][at + 1:]
                            thing = (right[0], pairs) if side else (pairs, right[1])
                            self.assertIs(shows_kinds(world, gate, x, y, thing), by_the_words(world, gate, x, y, thing))

    def test_any_value(self):
        for value in any_values():
            kind, rows = self.plans[0]
            things = [value, (value,), (value, self.bounds), (self.plans, value), [self.plans, self.bounds],
                      (self.plans, self.bounds, value), (self.plans + (value,), self.bounds),
                      (self.plans, self.bounds + (value,)), (((value, rows),) + self.plans[1:], self.bounds),
                      (((kind, value),) + self.plans[1:], self.bounds), (((kind, rows, value),) + self.plans[1:], self.bounds),
                      (([kind, rows],) + self.plans[1:], self.bounds),
                      (self.plans, ((self.bounds[0][0], value),) + self.bounds[1:]),
                      (self.plans, ((str(self.bounds[0][0]), self.bounds[0][1]),) + self.bounds[1:])]
            for thing in things:
                self.assertIs(shows_kinds(*self.case, thing), False, thing)
                self.assertIs(by_the_words(*self.case, thing), False, thing)

    def test_many_pairs(self):
        pair = self.plans[0]
        self.assertIs(shows_kinds(*self.case, ((pair,) * 600, self.bounds)), False)

    def test_another_gate_or_other_hosts(self):
        thing = (self.plans, self.bounds)
        for gate, x, y in questions(ONE):
            self.assertIs(shows_kinds(ONE, gate, x, y, thing), by_the_words(ONE, gate, x, y, thing))


if __name__ == "__main__":
    unittest.main()
