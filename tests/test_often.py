"""Answers that may be asked often, in small worlds: looked at one by one, by the words of the document.

Families ([31]) are compared with the rounds of the slow model for all sets of items, rounds behind events ([34]) with
those of the model from what is left, and with packets of all hosts in a network in which hosts move ([35]).
"""

import itertools
import random
import unittest

from meetbehind.books import first_in
from meetbehind.closure import Closure
from meetbehind.errors import Clash
from meetbehind.familycheck import shows_family
from meetbehind.kinds import Kind
from meetbehind.late import late
from meetbehind.leftovers import remaining
from meetbehind.movenets import MoveNet
from meetbehind.moves import back, book_after, heard_again
from meetbehind.plans import reach
from meetbehind.questions import family, shown_family
from meetbehind.repairs import repairs
from meetbehind.speakers import least_speakers, needed
from meetbehind.worlds import World
from tests.model import model_behind, NameModel, random_world
from tests.samples import Checks, ONE, some_changed, STRICT
from tests.test_familycheck import by_the_words, slow_blockers, subsets
from tests.test_leftovers import events
from tests.test_moves import NetworkChecks
from tests.test_questions import asked, EIGHT, items_of, QUESTIONS, slow_set_up

LOOSE = Kind("one", "any", turns=True)
# hosts and realms are eight, and all hosts have one address: nobody hears another one without helpers
SLOW = World(("gate", "a", "", 5, LOOSE), ("gate", "b", "", 6, LOOSE), ("gate", "c", "", 7, LOOSE),
             ("host", "w", "", 1), ("host", "x", "a", 1), ("host", "y", "b", 1), ("host", "z", "c", 1))
# the same, but one can be sent to by all
OPEN = World(*SLOW.parts[:3], ("host", "w", "", 9), *SLOW.parts[4:])
# stricter in several ways
MIXED = SLOW.with_kind("a", Kind("both", "far")).with_kind("b", Kind("far", "both")).with_kind("c", Kind("both", "any"))
TIGHT = OPEN.with_kind("a", Kind("both", "far")).with_kind("b", Kind("far", "both", turns=True)).with_kind("c", Kind("both", "both"))
# gates within one another, with hosts of one address
NEST = World(("gate", "a", "", 5, LOOSE), ("gate", "b", "a", 6, Kind("far", "far", turns=True)), ("gate", "c", "a", 7, LOOSE),
             ("host", "w", "", 1), ("host", "x", "b", 1), ("host", "y", "c", 1), ("host", "z", "a", 1))
SMALL = (SLOW, OPEN, MIXED, TIGHT, NEST)
# families of several sets, or of sets of several items
SEVERAL = (
    World.read("gate a - 1 both/far turns\ngate b - 3 far/far\ngate c a 4 far/both\nhost s b 3\nhost t c 6\nhost u - 9"),
    World.read("gate a - 4 one/both\ngate b a 1 far/both\ngate c a 3 one/any\nhost s b 3\nhost t - 2\nhost u c 3"),
    World.read("gate a - 2 both/far\ngate b - 1 both/any\ngate c b 1 both/both turns\nhost s a 2\nhost t c 1"))
# hosts that can move into each other realm
MOVERS = World(*SLOW.parts[:3], ("host", "w", "", 1), ("host", "x", "a", 2), ("host", "y", "b", 3), ("host", "z", "c", 4))
CHAINED = World(*NEST.parts[:3], ("host", "w", "", 1), ("host", "x", "b", 2), ("host", "y", "c", 3), ("host", "z", "a", 4))
MOVING = (MOVERS, CHAINED, MOVERS.with_kind("a", Kind("both", "far")).with_kind("b", Kind("far", "both")),
          CHAINED.with_kind("a", Kind("far", "any")).with_kind("c", Kind("both", "both", turns=True)))


def heard_pairs(world, speakers):
    """The pairs (x, y) of hosts of which y hears x, by the model."""
    return {(row[1], row[3]) for row in NameModel(world, speakers).closure()[1]}


class Sets:
    """Who hears whom with each set of items of a question, one set after another."""

    def __init__(self, world, question):
        self.items = items_of(world, question)
        self.heard = {part: heard_pairs(*slow_set_up(world, question, part)) for part in subsets(self.items)}

    def family(self, x, y):
        """The least sets with which y hears x, and their blockers, by looking at all sets."""
        good = [part for part in self.heard if (x, y) in self.heard[part]]
        least = tuple(part for part in good if not any(set(other) < set(part) for other in good))
        return (least, slow_blockers(self.items, least))


def in_other_orders(world, rng):
    """Equal worlds, with the parts in other orders."""
    found = []
    for _ in range(3):
        hosts = [part for part in world.parts if part[0] == "host"]
        gates = [part for part in world.parts if part[0] == "gate"]
        rng.shuffle(hosts)
        rng.shuffle(gates)
        gates.sort(key=lambda part: len(world.chain(part[1])))
        found.append(World(*gates, *hosts))
        found.append(World(*[part for part in hosts if part[2] == ""], *gates, *[part for part in hosts if part[2] != ""]))
    return found


class FamilyTest(Checks, unittest.TestCase):

    def check(self, world, question, pairs):
        sets = Sets(world, question)
        for x, y in pairs:
            expected = sets.family(x, y)
            self.assert_same(family(world, x, y, question), expected)
            if question == "speakers":
                self.assert_same(least_speakers(world, x, y), expected[0])
            plans, bounds = shown_family(world, x, y, question)
            self.assert_same((tuple(part for part, _ in plans), tuple(part for part, _ in bounds)), expected)
            for part, rows in plans:
                other, speakers = slow_set_up(world, question, part)
                self.assert_same(rows, reach(other, x, y, speakers=speakers)[1])
            for part, bound in bounds:
                other, speakers = slow_set_up(world, question, [item for item in sets.items if item not in part])
                self.assert_same(bound, late(other, x, y, speakers=speakers))
            self.assertTrue(by_the_words(world, x, y, question, (plans, bounds)))
            self.assertIs(shows_family(world, x, y, question, (plans, bounds)), True)

    def test_the_slow_world(self):
        # speakers: x is heard by nobody but itself; helpers: one in the open realm is heard by all
        self.assert_same(family(SLOW, "x", "y", "speakers"), ((), ((),)))
        self.assert_same(family(SLOW, "x", "y", "gates"), ((), ((),)))
        self.assert_same(family(SLOW, "x", "y", "helpers"), ((("",),), (("",),)))
        y2, b1 = ("own", 2), ("lent", "b", ("own", 1), None)
        self.assert_same(shown_family(SLOW, "x", "y", "helpers"),
                         (((("",), ((1, "y", y2), (2, "x", b1))),), ((("",), (None, ())),)))
        for question in ("speakers", "gates"):
            self.assert_same(shown_family(SLOW, "x", "y", question), ((), (((), (None, ())),)))

    def test_one_host(self):
        self.assert_same(family(SLOW, "x", "x", "speakers"), ((("x",),), (("x",),)))
        for world in SMALL:
            for x in world.hosts:
                for question in QUESTIONS:
                    least = ((x,),) if question == "speakers" else ((),)
                    self.assert_same(family(world, x, x, question)[0], least)

    def test_all_hosts_of_small_worlds(self):
        for world in SMALL + SEVERAL:
            for question in QUESTIONS:
                self.check(world, question, list(itertools.product(world.hosts, world.hosts)))

    def test_somebody_is_heard_and_somebody_is_not(self):
        lengths = {question: set() for question in QUESTIONS}
        for world in SMALL + SEVERAL:
            for question in QUESTIONS:
                for x, y in itertools.permutations(world.hosts, 2):
                    lengths[question].add(tuple(len(part) for part in family(world, x, y, question)[0]))
        self.assertLessEqual({(), (1,), (2,), (3,)}, lengths["speakers"])
        self.assertLessEqual({(), (0,), (1, 1), (1, 2), (2, 2)}, lengths["gates"])
        self.assertLessEqual({(), (0,), (1,), (2,)}, lengths["helpers"])

    def test_random_worlds_in_which_many_addresses_agree(self):
        for seed in range(60):
            rng = random.Random(seed)
            world = random_world(rng, gates=3, hosts=4, last=rng.choice((2, 4, 9)))
            pairs = [(rng.choice(world.hosts), rng.choice(world.hosts)) for _ in range(3)]
            for question in asked(world):
                self.check(world, question, pairs)

    def test_addresses_and_letters_between_those_of_the_world(self):
        # the helpers stand at addresses that are free between those of others, and are called by letters between
        world = World(("gate", "b", "", 2, Kind("far", "far")), ("gate", "d", "", 4, Kind("both", "both", turns=True)),
                      ("host", "a", "b", 6), ("host", "f", "d", 6), ("host", "c", "d", 1))
        for question in QUESTIONS:
            self.check(world, question, list(itertools.product(world.hosts, world.hosts)))
        self.check(EIGHT, "helpers", [("x", "y"), ("y", "x"), ("r", "y")])

    def test_what_is_changed_in_one_part(self):
        many = 0
        for seed, world in enumerate(SMALL):
            rng = random.Random(seed)
            for question in QUESTIONS:
                for x, y in itertools.product("xy", "yz"):
                    right = shown_family(world, x, y, question)
                    for thing in some_changed(right, rng, 12):
                        expected = by_the_words(world, x, y, question, thing)
                        self.assertIs(shows_family(world, x, y, question, thing), expected, (str(world), question, thing))
                        many += expected
        self.assertGreater(many, 0)

    def test_repairs_and_needed_hosts(self):
        for world in SMALL + (ONE, STRICT):
            for x, y in itertools.product(world.hosts, world.hosts):
                good = []
                for part in subsets(world.gates):
                    other = World(*[one[:4] + (LOOSE,) if one[1] in part else one for one in world.parts])
                    if not any(set(less) <= set(part) for less in good) and (x, y) in heard_pairs(other, None):
                        good.append(part)
                self.assert_same(repairs(world, x, y), tuple(good))
                if Closure(world).heard(x, y):
                    lacking = [name for name in world.hosts
                               if (x, y) not in heard_pairs(world, [host for host in world.hosts if host != name])]
                    self.assert_same(needed(world, x, y), tuple(lacking))


class BehindTest(NetworkChecks, unittest.TestCase):

    def check(self, world, event):
        right = model_behind(world, event).book()
        self.assert_same(book_after(world, event), right)
        for x, y in itertools.product(world.hosts, world.hosts):
            found = (back(world, event[1], x, y) if event[0] == "falls"
                     else heard_again(world, event[1], event[2], x, y))
            self.assert_same(found, first_in(right, x, y))

    def test_the_slow_world(self):
        for world in SMALL:
            for gate in world.gates:
                self.check(world, ("falls", gate))
        # in each realm stands a host with this address
        for host, realm in itertools.product(SLOW.hosts, ("",) + SLOW.gates):
            for ask in (lambda: book_after(SLOW, ("moves", host, realm)), lambda: heard_again(SLOW, host, realm, "x", "y")):
                self.assert_raises(Clash, {"number": 1}, ask)
            self.assert_raises(Clash, {"number": 1}, MoveNet(SLOW).move, host, realm)

    def test_words(self):
        self.assert_same([back(SLOW, "a", "x", "y"), back(SLOW, "a", "x", "x"), back(OPEN, "a", "x", "y")], [None, 1, 1])
        # w saw b(3) before a fell, and sees it again in the first round behind the fall of b
        self.assert_same([back(MOVERS, "a", "x", "y"), back(MOVERS, "b", "x", "y")], [1, 2])
        self.assert_same([heard_again(MOVERS, "x", "b", "x", "y"), heard_again(MOVERS, "x", "b", "y", "x"),
                          heard_again(MOVERS, "x", "c", "w", "x"), heard_again(MOVERS, "w", "a", "x", "y"),
                          heard_again(MOVERS, "w", "a", "w", "w")], [1, 1, 2, 1, 1])

    def test_all_events_of_small_worlds(self):
        for world in MOVING:
            for event in events(world):
                self.check(world, event)

    def test_packets_of_all_hosts_in_a_network(self):
        for seed, world in enumerate(SMALL + MOVING):
            rng = random.Random(seed)
            for event in rng.sample(events(world), min(5, len(events(world)))):
                self.check_network(world, event, rng)

    def test_random_worlds_in_which_many_addresses_agree(self):
        for seed in range(60):
            rng = random.Random(seed)
            world = random_world(rng, gates=3, hosts=4, last=rng.choice((4, 9)))
            for event in events(world):
                self.check(world, event)


class NothingIsKeptTest(Checks, unittest.TestCase):

    def answers(self, world):
        """Answers of all these functions, in an order that tells what is asked before what."""
        found = []
        for question in QUESTIONS:
            for x, y in (("x", "y"), ("y", "x"), ("x", "x"), ("w", "z")):
                shown = shown_family(world, x, y, question)
                found.append((question, x, y, family(world, x, y, question), shown, shows_family(world, x, y, question, shown)))
        for event in events(world):
            found.append((event, book_after(world, event), remaining(world, event)))
        for gate in world.gates:
            found.append((gate, back(world, gate, "x", "y"), back(world, gate, "y", "z")))
        return tuple(found)

    def test_the_same_answers_each_time(self):
        for world in SMALL + MOVING:
            first = self.answers(world)
            self.assert_same(self.answers(world), first)
            self.assert_same(self.answers(World(*world.parts)), first)

    def test_equal_worlds_whose_parts_stand_in_another_order(self):
        for seed, world in enumerate(SMALL + MOVING):
            first = self.answers(world)
            for other in in_other_orders(world, random.Random(seed)):
                self.assertEqual(other, world)
                self.assertEqual({repr(row) for row in self.answers(other)}, {repr(row) for row in first})

    def test_worlds_stay_as_they_are(self):
        for world in SMALL + MOVING:
            before = repr(vars(world))
            self.answers(world)
            self.assertEqual(repr(vars(world)), before)

    def test_what_was_returned_can_be_asked_about_another_world(self):
        for question in QUESTIONS:
            shown = shown_family(SLOW, "x", "y", question)
            for world in SMALL:
                self.assertIs(shows_family(world, "x", "y", question, shown), by_the_words(world, "x", "y", question, shown))
            self.assertIs(shows_family(SLOW, "x", "y", question, shown), True)


if __name__ == "__main__":
    unittest.main()
