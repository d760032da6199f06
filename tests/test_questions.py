"""The three questions of [31]: speakers, gates and helpers."""

import itertools
import random
import unittest

from meetbehind.closure import Closure
from meetbehind.errors import InvalidQuestion, NoStation, TooMany
from meetbehind.families import blockers
from meetbehind.kinds import Kind
from meetbehind.latecheck import shows_late
from meetbehind.plancheck import shows_plan
from meetbehind.plans import reach
from meetbehind.questions import family, set_up, shown_family
from meetbehind.worlds import World
from tests.model import random_world
from tests.samples import any_values, BIG, Checks, CHAIN, DEEP, DRIFT, INNER, ONE, SIX, STRICT, TALKERS, values_but

QUESTIONS = ("speakers", "gates", "helpers")
LOOSE = Kind("one", "any", turns=True)
TIGHT = Kind("both", "both")
# five hosts and two gates, so that hosts and realms are eight
EIGHT = ONE.with_part(("host", "q", "", 2)).with_part(("host", "r", "a", 3))
NINE = EIGHT.with_part(("host", "s", "", 4))


def items_of(world, question):
    return {"speakers": world.hosts, "gates": world.gates, "helpers": ("",) + world.gates}[question]


def slow_set_up(world, question, items):
    """set_up by the words of the document."""
    if question == "speakers":
        return world, tuple(sorted(set(items)))
    if question == "gates":
        for gate in world.gates:
            world = world.with_kind(gate, LOOSE if gate in items else TIGHT)
        return world, None
    for realm in sorted(set(items)):
        taken = [part[3] for part in world.parts]
        address = [number for number in range(1, 100) if number not in taken][0]
        name = [letter for letter in "abcdefghijklmnopqrstuvwxyz" if letter not in world.gates + world.hosts][0]
        world = world.with_part(("host", name, realm, address))
    return world, None


def slow_family(world, x, y, question):
    """The least sets, by looking at all sets of items, and their blockers."""
    items = items_of(world, question)
    good = []
    for many in range(len(items) + 1):
        for part in itertools.combinations(items, many):
            other, speakers = slow_set_up(world, question, part)
            if not any(set(one) <= set(part) for one in good) and Closure(other, speakers=speakers).heard(x, y):
                good.append(part)
    return tuple(good), blockers(good)


def asked(world):
    return [question for question in QUESTIONS if question != "helpers" or len(world.hosts) + len(world.gates) < 8]


class SetUpTest(Checks, unittest.TestCase):

    def test_speakers(self):
        for items in (("x", "p"), ["p", "x"], ("x", "p", "x")):
            world, speakers = set_up(ONE, "speakers", items)
            self.assertEqual((world, speakers), (ONE, ("p", "x")))
            self.assertEqual(world.parts, ONE.parts)
        self.assert_same(set_up(ONE, "speakers", ())[1], ())
        self.assert_same(set_up(world=ONE, question="speakers", items=[])[1], ())

    def test_gates(self):
        world, speakers = set_up(ONE, "gates", ["b", "b"])
        self.assertIsNone(speakers)
        self.assertEqual(world.parts, (("gate", "a", "", 5, TIGHT), ("gate", "b", "", 7, LOOSE)) + ONE.parts[2:])
        self.assertEqual(set_up(ONE, "gates", ())[0].parts[:2], (("gate", "a", "", 5, TIGHT), ("gate", "b", "", 7, TIGHT)))
        mixed = World(("host", "x", "", 3), ("gate", "b", "", 7, Kind("one", "any", rests=20)), ("gate", "a", "b", 5, LOOSE))
        self.assertEqual(set_up(mixed, "gates", ("a",))[0].parts,
                         (("host", "x", "", 3), ("gate", "b", "", 7, TIGHT), ("gate", "a", "b", 5, LOOSE)))

    def test_helpers(self):
        for items in (("b", ""), ["", "b", ""]):
            world, speakers = set_up(ONE, "helpers", items)
            self.assertIsNone(speakers)
            # a and b are names of gates, and 1 is the address of p
            self.assertEqual(world.parts, ONE.parts + (("host", "c", "", 2), ("host", "d", "b", 3)))
        self.assertEqual(set_up(ONE, "helpers", ("b", "a"))[0].parts[5:], (("host", "c", "a", 2), ("host", "d", "b", 3)))
        self.assertEqual(set_up(ONE, "helpers", ())[0].parts, ONE.parts)

    def test_letters_and_addresses_that_are_taken(self):
        world = World(("gate", "ab", "", 1, LOOSE), ("host", "a", "ab", 2), ("host", "c", "", 4), ("host", "d", "ab", 4))
        self.assertEqual(set_up(world, "helpers", ("", "ab"))[0].parts[4:], (("host", "b", "", 3), ("host", "e", "ab", 5)))

    def test_by_the_words_of_the_document(self):
        rng = random.Random(1)
        for world in (ONE, STRICT, INNER, CHAIN, DEEP, SIX, DRIFT):
            for question in asked(world):
                for _ in range(10):
                    items = [item for item in items_of(world, question) if rng.random() < 0.5]
                    rng.shuffle(items)
                    expected = slow_set_up(world, question, items)
                    found = set_up(world, question, items + items)
                    self.assertEqual(found, expected)
                    self.assertEqual(found[0].parts, expected[0].parts)

    def test_wrong_questions(self):
        for value in any_values() + ["Speakers", "speaker", ["gates"], ("helpers",), ""]:
            self.assert_raises(InvalidQuestion, {"question": value}, set_up, ONE, value, ())
            self.assert_raises(InvalidQuestion, {"question": value}, set_up, NINE, value, ("q", None))
            self.assert_raises(InvalidQuestion, {"question": value}, family, NINE, None, None, value)
            self.assert_raises(InvalidQuestion, {"question": value}, shown_family, NINE, None, None, value)

    def test_wrong_items(self):
        for question in QUESTIONS:
            for value in values_but(items_of(ONE, question)):
                self.assert_raises(NoStation, {"name": value}, set_up, ONE, question, (value,))
                self.assert_raises(NoStation, {"name": value}, set_up, ONE, question,
                                   [items_of(ONE, question)[0], value, value])
            self.assert_raises(NoStation, {"name": 10}, set_up, ONE, question, (2, 10, None))
            self.assert_raises(NoStation, {"name": "c"}, set_up, ONE, question, ["q", "c", "d"])
        self.assert_raises(NoStation, {"name": ""}, set_up, ONE, "gates", ("a", ""))
        self.assert_raises(NoStation, {"name": "a"}, set_up, ONE, "speakers", ("x", "a"))
        self.assert_raises(NoStation, {"name": "x"}, set_up, ONE, "helpers", ("x", "a"))

    def test_eight_and_nine(self):
        self.assertEqual(len(set_up(EIGHT, "helpers", ("", "a", "b"))[0].hosts), 8)
        self.assert_raises(TooMany, {"limit": 8}, set_up, NINE, "helpers", ())
        self.assert_raises(TooMany, {"limit": 8}, set_up, NINE, "helpers", ("", "a"))
        # what is no item comes first
        self.assert_raises(NoStation, {"name": "x"}, set_up, NINE, "helpers", ("x",))
        for question in ("speakers", "gates"):
            self.assertEqual(len(set_up(NINE, question, ())[0].hosts), 6)


class FamilyTest(Checks, unittest.TestCase):

    def test_the_examples(self):
        self.assert_same(family(STRICT, "x", "y", "gates"), ((("a",), ("b",)), (("a", "b"),)))
        self.assert_same(family(STRICT, "x", "y", "helpers"), ((), ((),)))
        self.assert_same(family(world=ONE, x="x", y="y", question="speakers"), ((("p", "x", "y"),), (("p",), ("x",), ("y",))))

    def test_y_hears_x_always(self):
        self.assert_same(family(ONE, "x", "y", "helpers"), (((),), ()))
        self.assert_same(family(ONE, "x", "p", "gates"), (((),), ()))
        self.assert_same(family(ONE, "x", "x", "speakers"), ((("x",),), (("x",),)))

    def test_y_never_hears_x(self):
        for question in ("speakers", "helpers"):
            self.assert_same(family(STRICT, "x", "y", question), ((), ((),)))
        # nobody can tell a name
        world = World(("gate", "a", "", 5, LOOSE), ("gate", "b", "", 7, LOOSE), ("host", "x", "a", 10), ("host", "y", "b", 11))
        self.assert_same(family(world, "x", "y", "gates"), ((), ((),)))
        self.assert_same(family(world, "x", "y", "helpers"), ((("",),), (("",),)))

    def test_helpers_in_an_inner_realm(self):
        world = World(*[part for part in INNER.parts if part[1] != "h"])
        self.assert_same(family(world, "x", "y", "helpers"), ((("c",),), (("c",),)))
        self.assert_same(family(INNER.without("p"), "x", "y", "helpers"), (((),), ()))

    def test_all_worlds(self):
        for world in (ONE, STRICT, INNER, CHAIN, DEEP, DRIFT, TALKERS, EIGHT):
            for x in world.hosts:
                for y in world.hosts:
                    for question in asked(world):
                        self.assert_same(family(world, x, y, question), slow_family(world, x, y, question))

    def test_random_worlds(self):
        sizes = {question: [] for question in QUESTIONS}
        for seed in range(40):
            rng = random.Random(seed)
            world = random_world(rng, gates=4, hosts=4, last=12)
            for question in asked(world):
                x, y = rng.choice(world.hosts), rng.choice(world.hosts)
                self.assert_same(family(world, x, y, question), slow_family(world, x, y, question))
                sizes[question] += [len(part) for part in family(world, x, y, question)[0]]
        for question in QUESTIONS:
            self.assertGreater(len(set(sizes[question])), 1, question)

    def test_errors_in_their_order(self):
        for ask in (family, shown_family):
            for value in values_but(["x", "y", "p"]):
                for question in QUESTIONS:
                    self.assert_raises(NoStation, {"name": value}, ask, ONE, value, "x", question)
                    self.assert_raises(NoStation, {"name": value}, ask, ONE, "x", value, question)
                    self.assert_raises(NoStation, {"name": value}, ask, ONE, value, None, question)
                self.assert_raises(InvalidQuestion, {"question": value}, ask, ONE, value, value, value)
            self.assert_raises(TooMany, {"limit": 8}, ask, NINE, "x", "y", "helpers")
            self.assert_raises(NoStation, {"name": "t"}, ask, NINE, "t", "y", "helpers")
            self.assert_raises(NoStation, {"name": "t"}, ask, NINE, "x", "t", "helpers")
            self.assertEqual(len(ask(EIGHT, "x", "y", "helpers")), 2)
            self.assertEqual(len(ask(NINE, "x", "y", "gates")), 2)


class ShownFamilyTest(Checks, unittest.TestCase):

    def check(self, world, x, y, question):
        least, blocking = family(world, x, y, question)
        plans, bounds = shown_family(world, x, y, question)
        self.assert_same(tuple(part for part, _ in plans), least)
        self.assert_same(tuple(part for part, _ in bounds), blocking)
        for part, rows in plans:
            other, speakers = set_up(world, question, part)
            self.assert_same(rows, reach(other, x, y, speakers=speakers)[1])
            self.assertIs(shows_plan(other, x, y, rows, speakers=speakers), True)
            for item in part:
                fewer, speakers = set_up(world, question, [one for one in part if one != item])
                self.assertIs(Closure(fewer, speakers=speakers).heard(x, y), False)
        for part, bound in bounds:
            rest = [item for item in items_of(world, question) if item not in part]
            other, speakers = set_up(world, question, rest)
            self.assertIsNone(bound[0])
            self.assertIs(shows_late(other, x, y, bound, speakers=speakers), True)

    def test_words(self):
        self.assert_same(shown_family(world=ONE, x="x", y="p", question="speakers"),
                         (((("x",), ((1, "x", ("own", 1)),)),), ((("x",), (None, ((1, ("lent", "b", ("own", 10), ("own", 1))),))),)))
        self.assertEqual(shown_family(ONE, "x", "y", "helpers"), ((((), reach(ONE, "x", "y")[1]),), ()))
        plans, bounds = shown_family(STRICT, "x", "y", "helpers")
        self.assertEqual((plans, [part for part, _ in bounds]), ((), [()]))

    def test_all_worlds(self):
        for world in (ONE, STRICT, INNER, CHAIN, DEEP, DRIFT, EIGHT):
            for question in asked(world):
                for x, y in itertools.product(world.hosts, world.hosts):
                    self.check(world, x, y, question)
        for question in ("speakers", "gates"):
            for x, y in (("s", "z"), ("z", "s"), ("x", "t")):
                self.check(BIG, x, y, question)

    def test_random_worlds(self):
        for seed in range(60):
            rng = random.Random(seed)
            world = random_world(rng, gates=5, hosts=4, last=12)
            for question in asked(world):
                self.check(world, rng.choice(world.hosts), rng.choice(world.hosts), question)


if __name__ == "__main__":
    unittest.main()
