"""How slowly rounds may be done ([25], with [18] and [19])."""

import itertools
import random
import unittest

from meetbehind.beats import shows_beat, slowest
from meetbehind.closure import Closure
from meetbehind.errors import NoStation
from meetbehind.kinds import Kind
from meetbehind.late import late
from meetbehind.latecheck import shows_late
from meetbehind.plancheck import shows_plan
from meetbehind.plans import reach
from meetbehind.ports import Ports
from meetbehind.restnets import RestNet
from meetbehind.worlds import World
from tests.model import NameModel, random_world
from tests.samples import (A1, A7, any_values, B5, changed, Checks, CHAIN, DEEP, DRIFT, INNER, ONE, same, SIX, some_changed,
                           STRICT, TALKERS, values_but)

REST = ONE.with_kind("a", Kind("both", "any", rests=30)).with_kind("b", Kind("both", "far", rests=20))
X_PLAN = ((1, "x", ("own", 1)), (2, "y", A1), (3, "x", B5))


def with_rests(world, rests):
    """The world with these rests of its gates, in their order."""
    for gate, units in zip(world.gates, rests):
        kind = world.kind(gate)
        world = world.with_kind(gate, Kind(kind.lends, kind.lets, turns=kind.turns, rests=units))
    return world


def rests_of(world):
    return sorted({world.kind(gate).rests for gate in world.gates} - {None})


def forgetting(world, beat):
    """The gates that rest at most this beat; with None all that rest."""
    return [gate for gate in world.gates if world.kind(gate).rests is not None
            and (beat is None or world.kind(gate).rests <= beat)]


def heard(world, x, y, beat, speakers=None):
    return Closure(world, speakers=speakers, forgets=forgetting(world, beat)).heard(x, y)


def slow_beat(world, x, y, speakers=None):
    """The greatest beat, by trying one after another; 0 if there is none."""
    if heard(world, x, y, None, speakers):
        return None
    beats = range(1, max(rests_of(world), default=1) + 1)
    return max([beat for beat in beats if heard(world, x, y, beat, speakers)], default=0)


def by_the_words(world, x, y, thing, speakers=None):
    """Whether a value is what slowest may return, by the words of the document and the slow model."""
    if thing.__class__ is not tuple or len(thing) not in (2, 3) or thing[0].__class__ is not str:
        return False
    if thing[0] == "never" and len(thing) == 2:
        return NameModel(world, speakers).shows_bound(x, y, thing[1]) and thing[1][0] is None
    if thing[0] != "beat" or len(thing) != 3:
        return False
    _, beat, rows = thing
    if not (beat is None or (beat.__class__ is int and beat >= 1)):
        return False
    if not NameModel(world, speakers, forgetting(world, beat)).shows_plan(x, y, rows):
        return False
    if beat is None:
        return True
    # beats behind which no other gate forgets are alike
    greater = [None, beat + 1] + [units for units in rests_of(world) if units > beat]
    return not any(heard(world, x, y, other, speakers) for other in greater)


def deliveries(world, speakers, rows, beat, ports):
    """For each round a list of the pairs (sender, hearer), each row being sent again in each later round."""
    forgets = forgetting(world, beat)
    model = NameModel(world, speakers, forgets)
    net = RestNet(world, choose=ports)
    endpoints = {("own", world.address(host)): (world.address(host), 1) for host in world.hosts}
    endpoints.update({("blind", world.address(gate)): (world.address(gate), 0) for gate in world.gates})
    found = []
    for number in range(1, rows[-1][0] + 5):
        seen = {}
        found.append([])
        for first, host, name in rows:
            if first <= number:
                result = net.send(host, endpoints[name])
                if result[0] == "heard":
                    found[-1].append((host, result[1]))
                    if result[1] in model.speakers:
                        seen.setdefault(model.way(host, name)[0][-1], result[2])
        for name in seen:
            endpoints.setdefault(name, seen[name])
        net.wait(10 ** 6 if beat is None else beat)
    return found


class SlowestTest(Checks, unittest.TestCase):

    def check(self, world, x, y, speakers=None):
        found = slowest(world, x, y, speakers=speakers)
        self.assertIs(shows_beat(world, x, y, found, speakers=speakers), True)
        self.assertTrue(by_the_words(world, x, y, found, speakers))
        if found[0] == "never":
            self.assert_same(len(found), 2)
            self.assertIsNone(found[1][0])
            self.assertIs(shows_late(world, x, y, found[1], speakers=speakers), True)
            self.assertEqual(slow_beat(world, x, y, speakers), 0)
            return
        word, beat, rows = found
        self.assert_same((word, beat), ("beat", slow_beat(world, x, y, speakers)))
        first = Closure(world, speakers=speakers, forgets=forgetting(world, beat)).first(x, y)
        self.assertEqual(rows[-1][0], first)
        for ports in (Ports(), Ports(77, 5, 9, 8, 40)):
            sent = deliveries(world, speakers, rows, beat, ports)
            for pairs in sent[first - 1:]:
                self.assertIn((x, y), pairs)

    def test_the_example(self):
        self.assert_same([slowest(REST, "y", "x")[:2], slowest(REST, "x", "y")[:2]], [("beat", 29), ("beat", 19)])

    def test_words(self):
        # with the greatest beat no gate forgets that is needed, so the plan is that of reach
        self.assert_same(slowest(REST, "x", "y"), ("beat", 19, reach(ONE, "x", "y")[1]))
        self.assert_same(slowest(world=REST, x="y", y="x", speakers=None), ("beat", 29, X_PLAN[:2]))
        self.assert_same(slowest(REST, "x", "p"), ("beat", None, ((1, "x", ("own", 1)),)))
        self.assert_same(slowest(REST, "x", "x"), ("beat", None, ((1, "x", ("own", 10)),)))

    def test_gates_that_never_end_their_entries(self):
        self.assert_same(slowest(ONE, "x", "y"), ("beat", None, reach(ONE, "x", "y")[1]))
        self.assert_same(slowest(with_rests(ONE, (None, 20)), "x", "y")[:2], ("beat", 19))
        # a lets in all; who forgets it is not told a name of it, so y cannot send to x
        self.assert_same(slowest(with_rests(ONE, (2, None)), "x", "y")[:2], ("beat", 1))
        self.assert_same(slowest(with_rests(ONE, (10 ** 6, None)), "y", "x")[:2], ("beat", 10 ** 6 - 1))
        self.assert_same(slowest(with_rests(ONE, (None, 2)), "y", "x")[:2], ("beat", None))

    def test_never(self):
        for world in (STRICT, with_rests(STRICT, (5, 5)), with_rests(STRICT, (None, 2))):
            self.assert_same(slowest(world, "x", "y"), ("never", late(STRICT, "x", "y")))
        self.assert_same(slowest(World(("host", "x", "", 1), ("host", "y", "", 2)), "x", "y"),
                         ("beat", None, ((1, "x", ("own", 2)),)))

    def test_equal_rests(self):
        world = with_rests(ONE, (20, 20))
        self.assert_same([slowest(world, "x", "y")[:2], slowest(world, "y", "x")[:2]], [("beat", 19), ("beat", 19)])

    def test_speakers(self):
        for speakers in (("x", "y"), ["y", "x"], {"x", "y"}):
            self.assert_same(slowest(REST, "x", "y", speakers=speakers),
                             ("never", late(REST, "x", "y", speakers=speakers)))
        self.assert_same(slowest(REST, "x", "p", speakers=["x"]), ("beat", None, ((1, "x", ("own", 1)),)))
        self.assert_same(slowest(REST, "x", "y", speakers=["y", "x", "p", "p"]), slowest(REST, "x", "y"))

    def test_the_fewest_rounds_with_the_gates_that_forget(self):
        # x is heard in round 3 by way of a and e, whose entries end sooner than those of c
        world = World.read("gate a - 23 far/any turns rests 2\ngate b a 25 both/any\ngate c a 10 both/far rests 6\n"
                           "gate d b 14 far/far turns\ngate e - 8 far/any turns rests 2\nhost s a 11\nhost t e 20\n"
                           "host u b 3\nhost v - 26\nhost w a 12\nhost x d 3\nhost y c 3")
        word, beat, rows = slowest(world, "y", "x")
        self.assertEqual((word, beat, rows[-1][0], Closure(world).first("y", "x")), ("beat", 5, 4, 3))
        self.check(world, "y", "x")
        self.assertIs(shows_beat(world, "y", "x", ("beat", 5, reach(world, "y", "x")[1])), False)

    def test_worlds_of_the_document(self):
        rng = random.Random(1)
        for world in (ONE, STRICT, INNER, CHAIN, DEEP, SIX, DRIFT, TALKERS):
            for _ in range(3):
                other = with_rests(world, [rng.choice((None, 2, 3, 5, 9)) for _ in world.gates])
                for x in world.hosts:
                    for y in world.hosts:
                        self.check(other, x, y)

    def test_random_worlds(self):
        beats = set()
        for seed in range(150):
            rng = random.Random(seed)
            world = random_world(rng, gates=5, hosts=5, last=14)
            world = with_rests(world, [rng.choice((None, 2, 3, 4, 6)) for _ in world.gates])
            speakers = rng.choice((None, [host for host in world.hosts if rng.random() < 0.7]))
            for _ in range(4):
                x, y = rng.choice(world.hosts), rng.choice(world.hosts)
                self.check(world, x, y, speakers)
                found = slowest(world, x, y, speakers=speakers)
                beats.add(found[1] if found[0] == "beat" else "never")
        self.assertEqual(beats, {None, 1, 2, 3, 5, "never"})

    def test_wrong_hosts_in_their_order(self):
        for ask in (slowest, lambda world, x, y, speakers=None: shows_beat(world, x, y, None, speakers=speakers)):
            for value in values_but(["x", "y", "p"]):
                self.assert_raises(NoStation, {"name": value}, ask, REST, value, "x", speakers=["q"])
                self.assert_raises(NoStation, {"name": value}, ask, REST, "x", value, speakers=["q"])
                self.assert_raises(NoStation, {"name": value}, ask, REST, value, None)
                self.assert_raises(NoStation, {"name": value}, ask, REST, "x", "y", speakers=("x", value))
            self.assert_raises(NoStation, {"name": "b"}, ask, REST, "x", "y", speakers={"q", "b", "x", "d"})


class ShowsBeatTest(Checks, unittest.TestCase):

    def shown(self, world, thing, x="x", y="y", speakers=None):
        found = shows_beat(world, x, y, thing, speakers=speakers)
        self.assertIs(found, by_the_words(world, x, y, thing, speakers), thing)
        return found

    def test_by_name(self):
        self.assertIs(shows_beat(world=REST, x="x", y="y", thing=("beat", 19, X_PLAN), speakers=None), True)

    def test_each_beat(self):
        for beat in (None,) + tuple(range(1, 34)):
            self.assertIs(self.shown(REST, ("beat", beat, X_PLAN)), beat == 19)
            self.assertIs(self.shown(REST, ("beat", beat, X_PLAN[:2]), "y", "x"), beat == 29)
            self.assertIs(self.shown(REST, ("beat", beat, X_PLAN[:1]), "x", "p"), beat is None)
            self.assertIs(self.shown(ONE, ("beat", beat, X_PLAN)), beat is None)

    def test_rests_equal_to_the_beat_one_more_and_one_less(self):
        for rests in (18, 19, 20, 21):
            world = with_rests(ONE, (30, rests))
            self.assertIs(self.shown(world, ("beat", 19, X_PLAN)), rests == 20)

    def test_beats_that_are_none(self):
        for value in values_but([None]) + [0, -1, True, "19", (19,), 10 ** 59, 19 + 10 ** 59]:
            self.assertIs(self.shown(REST, ("beat", value, X_PLAN)), False)
            self.assertIs(self.shown(with_rests(ONE, (30, 2)), ("beat", value, X_PLAN)), value.__class__ is int and value == 1)
            self.assertIs(self.shown(ONE, ("beat", value, X_PLAN)), False)

    def test_plans_of_more_rounds_than_need_be(self):
        for rows in (X_PLAN + ((7,) + X_PLAN[-1][1:],), ((1, "p", ("own", 1)),) + X_PLAN,
                     ((2, "x", ("own", 1)), (5, "y", A1), (9, "x", B5))):
            self.assertIs(self.shown(REST, ("beat", 19, rows)), True)

    def test_plans_that_are_none(self):
        for rows in ((), X_PLAN[:2], X_PLAN[1:], X_PLAN[::-1], list(X_PLAN), X_PLAN + ((4, "y", A7),), None, "rows"):
            self.assertIs(self.shown(REST, ("beat", 19, rows)), False)

    def test_plans_are_judged_with_the_gates_that_forget(self):
        # y hears x by the port of b that x was told, or by p
        world = World(("gate", "b", "", 7, Kind("one", "any", rests=9)), ("gate", "c", "", 8, Kind("one", "far", rests=5)),
                      ("host", "x", "c", 10), ("host", "y", "b", 11), ("host", "p", "", 1))
        rows = ((1, "y", ("own", 1)), (2, "x", ("lent", "b", ("own", 11), None)))
        self.assertIs(self.shown(world, ("beat", 8, rows)), True)
        # c forgets with this beat, so nobody is told a name of it
        longer = ((1, "x", ("own", 1)), (2, "p", ("lent", "c", ("own", 10), None)), (3, "y", ("own", 1)),
                  (4, "x", ("lent", "b", ("own", 11), None)))
        self.assertIs(shows_plan(world, "x", "y", longer), True)
        self.assertIs(self.shown(world, ("beat", 8, longer)), False)
        # and its names are not plain
        both = world.with_kind("b", Kind("one", "both", rests=9))
        plain = ("lent", "c", ("own", 10), None)
        rows = ((1, "x", ("own", 1)), (1, "y", ("own", 1)), (2, "y", plain), (3, "x", ("lent", "b", ("own", 11), None)))
        self.assertIs(shows_plan(both, "x", "y", rows), True)
        self.assertIs(self.shown(both, ("beat", 4, rows)), True)
        self.assertIs(self.shown(both, ("beat", 8, rows)), False)

    def test_never(self):
        for world in (STRICT, with_rests(STRICT, (5, 7))):
            bound = late(STRICT, "x", "y")
            self.assertIs(self.shown(world, ("never", bound)), True)
            self.assertIs(self.shown(world, ("never", (None, bound[1][::-1]))), True)
            for other in ((1, ()), (9,) + bound[1:], (None, bound[1][1:]), (None, ()), list(bound), None):
                self.assertIs(self.shown(world, ("never", other)), False)
            for beat in (None, 1, 4, 5, 6, 7):
                self.assertIs(self.shown(world, ("beat", beat, X_PLAN)), False)
        # a bound with the gates that rest forgetting is none here
        self.assertIs(self.shown(REST, ("never", (None, ()))), False)
        self.assertIs(self.shown(REST, ("never", late(REST, "x", "y"))), False)
        self.assertIs(self.shown(REST, ("never", late(REST, "x", "y", speakers=["x", "y"])), speakers=["x", "y"]), True)

    def test_speakers(self):
        self.assertIs(self.shown(REST, ("beat", 19, X_PLAN), speakers=["x", "y", "p", "x"]), True)
        self.assertIs(self.shown(REST, ("beat", 19, X_PLAN), speakers=["x", "y"]), False)
        self.assertIs(self.shown(REST, ("beat", None, X_PLAN[:1]), "x", "p", speakers={"x"}), True)

    def test_any_value(self):
        bound = late(STRICT, "x", "y")
        for value in any_values():
            for thing in (value, (value,), ("beat", value), ("never", value), (value, 19, X_PLAN), (value, bound),
                          ("beat", 19, value), ("beat", 19, X_PLAN, value), ["beat", 19, X_PLAN], ("never", bound, value),
                          ("beat", 19, X_PLAN + (value,)), ("never", (value,) + bound[1:]), ("never", (None, (value,)))):
                self.assertIs(self.shown(REST, thing), False)
                if not same(thing, ("never", bound)):
                    self.assertIs(self.shown(STRICT, thing), False)

    def test_each_changed_part(self):
        for world, x, y in ((REST, "x", "y"), (REST, "y", "x"), (REST, "x", "p"), (STRICT, "x", "y"), (with_rests(ONE, (2, 3)), "x", "y")):
            for thing in changed(slowest(world, x, y)):
                self.shown(world, thing, x, y)

    def test_changed_parts_in_random_worlds(self):
        right = 0
        for seed in range(80):
            rng = random.Random(seed)
            world = random_world(rng, gates=4, hosts=4, last=12)
            world = with_rests(world, [rng.choice((None, 2, 3, 5)) for _ in world.gates])
            x, y = rng.choice(world.hosts), rng.choice(world.hosts)
            for thing in some_changed(slowest(world, x, y), rng, 15):
                right += self.shown(world, thing, x, y)
        self.assertGreater(right, 0)

    def test_other_worlds(self):
        worlds = [with_rests(ONE, rests) for rests in itertools.product((None, 2, 3), repeat=2)]
        for one, two in itertools.product(worlds, repeat=2):
            self.shown(two, slowest(one, "x", "y"))
            self.shown(two, slowest(one, "y", "x"), "y", "x")


if __name__ == "__main__":
    unittest.main()
