"""Whether any value is a right family ([31])."""

import itertools
import random
import unittest

from meetbehind.errors import InvalidQuestion, NoStation, TooMany
from meetbehind.familycheck import shows_family
from meetbehind.kinds import Kind
from meetbehind.questions import family, shown_family
from meetbehind.worlds import World
from tests.model import NameModel, random_world
from tests.samples import (any_values, BIG, changed, Checks, CHAIN, DEEP, DRIFT, INNER, ONE, same, some_changed, STRICT,
                           TALKERS, values_but)
from tests.test_questions import asked, EIGHT, items_of, NINE, QUESTIONS, slow_set_up

WORLDS = (ONE, STRICT, INNER, CHAIN, DEEP, DRIFT, TALKERS, EIGHT)


def subsets(items):
    return [part for many in range(len(items) + 1) for part in itertools.combinations(items, many)]


def slow_blockers(items, sets):
    """The least sets of items that meet each of these, by looking at all."""
    found = []
    for part in subsets(sorted(items)):
        if all(set(part) & set(one) for one in sets) and not any(set(less) <= set(part) for less in found):
            found.append(part)
    return tuple(found)


def by_the_words(world, x, y, question, thing):
    """Whether a value is a right family, by the words of the document and the slow model."""
    if thing.__class__ is not tuple or len(thing) != 2:
        return False
    for pairs in thing:
        if pairs.__class__ is not tuple or not all(pair.__class__ is tuple and len(pair) == 2 for pair in pairs):
            return False
    items = items_of(world, question)
    right = subsets(items)
    sets = [part for part, _ in thing[0]]
    if not all(any(same(part, one) for one in right) for part in sets):
        return False
    if sets != sorted(sets, key=lambda part: (len(part), part)):
        return False
    if any(set(one) <= set(two) for one, two in itertools.permutations(sets, 2)):
        return False
    if not same(tuple(part for part, _ in thing[1]), slow_blockers(items, sets)):
        return False
    for part, rows in thing[0]:
        other, speakers = slow_set_up(world, question, part)
        if not NameModel(other, speakers).shows_plan(x, y, rows):
            return False
    for part, bound in thing[1]:
        other, speakers = slow_set_up(world, question, [item for item in items if item not in part])
        if not NameModel(other, speakers).shows_bound(x, y, bound) or bound[0] is not None:
            return False
    return True


class ShowsFamilyTest(Checks, unittest.TestCase):

    def test_what_shown_family_returns(self):
        for world in WORLDS:
            for question in asked(world):
                for x, y in itertools.product(world.hosts, world.hosts):
                    self.assertIs(shows_family(world, x, y, question, shown_family(world, x, y, question)), True)
        for question in ("speakers", "gates"):
            for x, y in (("s", "z"), ("z", "s"), ("x", "t")):
                self.assertIs(shows_family(BIG, x, y, question, shown_family(BIG, x, y, question)), True)

    def test_by_name(self):
        thing = shown_family(ONE, "x", "y", "gates")
        self.assertIs(shows_family(world=ONE, x="x", y="y", question="gates", thing=thing), True)

    def test_in_random_worlds(self):
        for seed in range(60):
            rng = random.Random(seed)
            world = random_world(rng, gates=4, hosts=4, last=12)
            for question in asked(world):
                x, y = rng.choice(world.hosts), rng.choice(world.hosts)
                right = shown_family(world, x, y, question)
                self.assertIs(shows_family(world, x, y, question, right), True)
                self.assertTrue(by_the_words(world, x, y, question, right))
                for thing in some_changed(right, rng, 12):
                    self.assertIs(shows_family(world, x, y, question, thing), by_the_words(world, x, y, question, thing))

    def test_each_changed_part(self):
        for world, question, x, y in ((ONE, "speakers", "x", "y"), (STRICT, "gates", "x", "y"), (STRICT, "helpers", "x", "y"),
                                      (ONE, "helpers", "y", "p"), (ONE, "speakers", "x", "x"), (STRICT, "speakers", "x", "y")):
            right = shown_family(world, x, y, question)
            for thing in changed(right):
                self.assertIs(shows_family(world, x, y, question, thing), by_the_words(world, x, y, question, thing), thing)

    def test_families_of_no_sets(self):
        for question in ("speakers", "helpers"):
            thing = shown_family(STRICT, "x", "y", question)
            self.assert_same((thing[0], [part for part, _ in thing[1]]), ((), [()]))
            self.assertIs(shows_family(STRICT, "x", "y", question, thing), True)
            self.assertIs(shows_family(ONE, "x", "y", question, thing), False)
            self.assertIs(shows_family(STRICT, "x", "y", question, ((), ())), False)
            # a bound with a round is none that shows that y never hears x
            self.assertIs(shows_family(STRICT, "x", "y", question, ((), (((), (9,) + thing[1][0][1][1:]),))), False)
            self.assertIs(shows_family(STRICT, "x", "y", question, ((), thing[1] + thing[1])), False)

    def test_families_of_the_void_set(self):
        for world, question, x, y in ((ONE, "helpers", "x", "y"), (ONE, "gates", "x", "p")):
            thing = shown_family(world, x, y, question)
            self.assert_same(([part for part, _ in thing[0]], thing[1]), ([()], ()))
            self.assertIs(shows_family(world, x, y, question, thing), True)
            self.assertIs(shows_family(world, x, y, question, (thing[0], (((), (None, ())),))), False)
            self.assertIs(shows_family(world, x, y, question, ((), ())), False)
            self.assertIs(shows_family(STRICT, "x", "y", question, thing), False)
            self.assertIs(shows_family(world, x, y, question, (thing[0] + thing[0], ())), False)
            # another set beside it is one that it is within
            more = thing[0] + (((items_of(world, question)[0],), thing[0][0][1]),)
            self.assertIs(shows_family(world, x, y, question, (more, ())), False)

    def test_sets_twice_or_within_another_one(self):
        plans, bounds = shown_family(STRICT, "x", "y", "gates")
        self.assert_same([part for part, _ in plans], [("a",), ("b",)])
        for more in ((plans[0], plans[0], plans[1]), (plans[0], plans[1], plans[1]),
                     plans + ((("a", "b"), plans[0][1]),), (((), plans[0][1]),) + plans):
            self.assertIs(shows_family(STRICT, "x", "y", "gates", (more, bounds)), False)
        both = (((("a", "b"), plans[0][1]),), bounds[:1])
        self.assertIs(shows_family(STRICT, "x", "y", "gates", both), False)

    def test_the_order(self):
        world = ONE.with_part(("host", "q", "", 2))
        plans, bounds = shown_family(world, "x", "y", "speakers")
        self.assert_same([part for part, _ in plans], [("p", "x", "y"), ("q", "x", "y")])
        self.assert_same([part for part, _ in bounds], [("x",), ("y",), ("p", "q")])
        self.assertIs(shows_family(world, "x", "y", "speakers", (plans, bounds)), True)
        self.assertIs(shows_family(world, "x", "y", "speakers", (plans[::-1], bounds)), False)
        for mixed in itertools.permutations(bounds):
            self.assertIs(shows_family(world, "x", "y", "speakers", (plans, mixed)), mixed == bounds)
        for part in (("q", "y", "x"), ("q", "x", "x", "y"), ["q", "x", "y"], ("q", "x", "y", "y")):
            self.assertIs(shows_family(world, "x", "y", "speakers", ((plans[0], (part, plans[1][1])), bounds)), False)
        for part in (("q", "p"), ["p", "q"], ("p", "q", "q")):
            self.assertIs(shows_family(world, "x", "y", "speakers", (plans, bounds[:2] + ((part, bounds[2][1]),))), False)

    def test_blockers_left_out_put_in_and_exchanged(self):
        cases = [(ONE.with_part(("host", "q", "", 2)), "speakers"), (STRICT, "gates"),
                 (World(*[part for part in INNER.parts if part[1] != "h"]), "helpers")]
        for world, question in cases:
            plans, bounds = shown_family(world, "x", "y", question)
            self.assertIs(shows_family(world, "x", "y", question, (plans, bounds)), True)
            for at, (_, bound) in enumerate(bounds):
                self.assertIs(shows_family(world, "x", "y", question, (plans, bounds[:at] + bounds[at + 1:])), False)
                for other in subsets(items_of(world, question)):
                    if other != bounds[at][0]:
                        exchanged = bounds[:at] + ((other, bound),) + bounds[at + 1:]
                        self.assertIs(shows_family(world, "x", "y", question, (plans, exchanged)), False)
                    put_in = tuple(sorted(bounds + ((other, bound),), key=lambda pair: (len(pair[0]), pair[0])))
                    self.assertIs(shows_family(world, "x", "y", question, (plans, put_in)), False)

    def test_a_least_set_that_is_lacking(self):
        world = ONE.with_part(("host", "q", "", 2))
        plans, _ = shown_family(world, "x", "y", "speakers")
        # blockers of the one set alone, with bounds that cannot be right
        for part, rows in plans:
            for number in (None, 1):
                bounds = tuple(((item,), (number, ())) for item in part)
                self.assertIs(shows_family(world, "x", "y", "speakers", (((part, rows),), bounds)), False)

    def test_plans_and_bounds_of_other_sets(self):
        plans, bounds = shown_family(STRICT, "x", "y", "gates")
        exchanged = tuple((part, plans[1 - at][1]) for at, (part, _) in enumerate(plans))
        self.assertIs(shows_family(STRICT, "x", "y", "gates", (exchanged, bounds)),
                      by_the_words(STRICT, "x", "y", "gates", (exchanged, bounds)))
        # speakers that are none of the set
        plans, bounds = shown_family(ONE, "x", "y", "speakers")
        rows = ((1, "p", ("own", 1)),) + plans[0][1]
        self.assertIs(shows_family(ONE, "x", "y", "speakers", (((plans[0][0], rows),), bounds)), True)
        plans, bounds = shown_family(ONE, "x", "p", "speakers")
        self.assertIs(shows_family(ONE, "x", "p", "speakers", (plans, bounds)), True)
        rows = ((1, "p", ("own", 1)),) + plans[0][1]
        self.assertIs(shows_family(ONE, "x", "p", "speakers", (((plans[0][0], rows),), bounds)), False)

    def test_a_plan_need_not_be_the_shortest(self):
        plans, bounds = shown_family(ONE, "x", "y", "helpers")
        rows = plans[0][1]
        later = rows + ((9,) + rows[-1][1:],)
        self.assertIs(shows_family(ONE, "x", "y", "helpers", ((((), later),), bounds)), True)

    def test_kinds_of_the_world_mean_nothing_to_the_gates(self):
        thing = shown_family(STRICT, "x", "y", "gates")
        for kind in (Kind("one", "any", turns=True), Kind("both", "both"), Kind("far", "far", rests=3)):
            self.assertIs(shows_family(ONE.with_kind("a", kind).with_kind("b", kind), "x", "y", "gates", thing), True)

    def test_one_question_is_not_another_one(self):
        world = World(("gate", "x", "", 5, Kind("one", "any")), ("host", "y", "x", 1), ("host", "p", "", 1))
        for one, two in itertools.permutations(QUESTIONS, 2):
            right = shown_family(world, "y", "p", one)
            self.assertIs(shows_family(world, "y", "p", two, right), by_the_words(world, "y", "p", two, right))


class AnyValueTest(Checks, unittest.TestCase):

    def test_any_value(self):
        for world, question in ((ONE, "speakers"), (STRICT, "gates"), (STRICT, "helpers"), (ONE, "helpers")):
            plans, bounds = shown_family(world, "x", "y", question)
            for value in any_values():
                things = [value, (value,), (plans, value), (value, bounds), (plans, bounds, value), (plans + (value,), bounds),
                          (plans, bounds + (value,)), [plans, bounds]]
                for at, (part, shown) in enumerate(plans):
                    for other in ((value, shown), (part, value), (part + (value,), shown), ((value,) + part[1:], shown)):
                        things.append((plans[:at] + (other,) + plans[at + 1:], bounds))
                for at, (part, shown) in enumerate(bounds):
                    for other in ((value, shown), (part, value), (part + (value,), shown), (part, (None, value)),
                                  (part, (value,) + shown[1:])):
                        if not same(other, (part, shown)):
                            things.append((plans, bounds[:at] + (other,) + bounds[at + 1:]))
                for thing in things:
                    if not same(thing, (plans, bounds)):
                        self.assertIs(shows_family(world, "x", "y", question, thing), False, thing)

    def test_what_other_functions_return(self):
        for question in QUESTIONS:
            self.assertIs(shows_family(STRICT, "x", "y", question, family(STRICT, "x", "y", question)), False)
            self.assertIs(shows_family(ONE, "x", "y", question, shown_family(ONE, "y", "x", question)), False)

    def test_errors_in_their_order(self):
        for value in any_values() + ["Speakers", ["gates"], ("helpers",)]:
            self.assert_raises(InvalidQuestion, {"question": value}, shows_family, NINE, None, None, value, None)
        for value in values_but(["x", "y", "p"]):
            for question in QUESTIONS:
                self.assert_raises(NoStation, {"name": value}, shows_family, ONE, value, None, question, None)
                self.assert_raises(NoStation, {"name": value}, shows_family, ONE, "x", value, question, None)
        self.assert_raises(NoStation, {"name": "t"}, shows_family, NINE, "x", "t", "helpers", ((), ()))
        self.assert_raises(TooMany, {"limit": 8}, shows_family, NINE, "x", "y", "helpers", None)
        self.assertIs(shows_family(EIGHT, "x", "y", "helpers", None), False)
        self.assertIs(shows_family(NINE, "x", "y", "gates", None), False)


if __name__ == "__main__":
    unittest.main()
