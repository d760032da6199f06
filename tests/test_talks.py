"""Talks, even talks and meetings ([20], [21])."""

import random
import unittest

from meetbehind.closure import Closure
from meetbehind.errors import NoStation
from meetbehind.kinds import Kind
from meetbehind.late import late
from meetbehind.latecheck import shows_late
from meetbehind.names import is_plain, show_name
from meetbehind.packets import walk
from meetbehind.plancheck import shows_plan
from meetbehind.plans import reach
from meetbehind.talks import even, meeting, shows_talk, talk
from meetbehind.worlds import World
from tests.model import NameModel, random_world
from tests.samples import (A1, any_values, B1, B5, BIG, changed, Checks, CHAIN, DEEP, INNER, ONE, SIX, some_changed,
                           STRICT, TALKERS, values_but)

PLAN = ((1, "x", ("own", 1)), (2, "y", A1), (3, "x", B5))
OPEN = World(("host", "x", "", 1), ("host", "y", "", 2), ("host", "z", "", 3))
# two hosts behind gates, and nobody who could tell a name
ALONE = World(("gate", "a", "", 5, Kind("one", "any")), ("gate", "b", "", 7, Kind("one", "any")),
              ("host", "x", "a", 10), ("host", "y", "b", 11))
WORLDS = (ONE, STRICT, INNER, CHAIN, DEEP, SIX, TALKERS, OPEN, ALONE)


def two_hosts(world):
    return [(x, y) for x in world.hosts for y in world.hosts if x != y]


class ModelOfTalks:
    """What [20] asks of any value, told by the model."""

    def __init__(self, world, speakers=None):
        self.model = NameModel(world, speakers)

    def shows(self, x, y, thing):
        if thing.__class__ is not tuple or not thing or thing[0].__class__ is not str:
            return False
        if thing[0] == "talk" and len(thing) == 2:
            found = [row[1:] for row in self.model.deliveries(thing[1]) or ()]
            return (x, y) in found and (y, x) in found
        if thing[0] == "one way" and len(thing) == 4:
            return ((thing[1] == y and self.model.shows_plan(x, y, thing[2]) and self.is_never(y, x, thing[3]))
                    or (thing[1] == x and self.model.shows_plan(y, x, thing[2]) and self.is_never(x, y, thing[3])))
        return (thing[0] == "never" and len(thing) == 3 and self.is_never(x, y, thing[1])
                and self.is_never(y, x, thing[2]))

    def is_never(self, x, y, bound):
        return self.model.shows_bound(x, y, bound) and bound[0] is None


class TalkTest(Checks, unittest.TestCase):

    def check(self, world, x, y, speakers=None):
        closure = Closure(world, speakers=speakers)
        there, back = closure.first(x, y), closure.first(y, x)
        thing = talk(world, x, y, speakers=speakers)
        if there is not None and back is not None:
            word, rows = thing
            self.assertEqual(word, "talk")
            self.assertEqual(rows[-1][0], max(there, back))
            found = NameModel(world, speakers).deliveries(rows)
            self.assertIn((there, x, y), found)
            self.assertIn((back, y, x), found)
        elif there is not None:
            self.assert_same(thing, ("one way", y, reach(world, x, y, speakers=speakers)[1],
                                     late(world, y, x, speakers=speakers)))
        elif back is not None:
            self.assert_same(thing, ("one way", x, reach(world, y, x, speakers=speakers)[1],
                                     late(world, x, y, speakers=speakers)))
        else:
            self.assertEqual(len(thing), 3)
            self.assertEqual(thing[0], "never")
            self.assertIs(shows_late(world, x, y, thing[1], speakers=speakers), True)
            self.assertIs(shows_late(world, y, x, thing[2], speakers=speakers), True)
            self.assertEqual([thing[1][0], thing[2][0]], [None, None])
        self.assertIs(shows_talk(world, x, y, thing, speakers=speakers), True)

    def test_a_talk(self):
        word, rows = talk(ONE, "x", "y")
        self.assertEqual(word, "talk")
        self.assertEqual(rows[-1][0], 3)
        self.assertIs(shows_plan(ONE, "x", "y", rows), True)
        self.assert_same(talk(world=OPEN, x="x", y="y", speakers=None),
                         ("talk", ((1, "x", ("own", 2)), (1, "y", ("own", 1)))))

    def test_one_way(self):
        never = (None, ((1, A1), (1, B1), (2, B5)))
        self.assert_same(talk(STRICT, "x", "y"), ("one way", "x", reach(STRICT, "y", "x")[1], never))
        self.assert_same(talk(STRICT, "y", "x"), ("one way", "x", reach(STRICT, "y", "x")[1], never))

    def test_never(self):
        self.assert_same(talk(ALONE, "x", "y"), ("never", (None, ()), (None, ())))
        self.assert_same(talk(ONE, "x", "y", speakers=()), ("never", (None, ()), (None, ())))

    def test_a_host_that_does_not_speak(self):
        word, hearer, rows, bound = talk(ONE, "x", "p", speakers=["x"])
        self.assertEqual((word, hearer, rows, bound), ("one way", "p", ((1, "x", ("own", 1)),), (None, ())))
        self.assertEqual(talk(ONE, "p", "x", speakers=["x"])[:2], ("one way", "p"))

    def test_all_pairs(self):
        for world in WORLDS:
            for x, y in two_hosts(world):
                self.check(world, x, y)
                self.check(world, x, y, world.hosts[1:])
                self.check(world, x, y, [x, y])

    def test_random_worlds(self):
        for seed in range(100):
            rng = random.Random(seed)
            world = random_world(rng, gates=5, hosts=4, last=12)
            for x, y in two_hosts(world):
                self.check(world, x, y, None if rng.random() < 0.5 else [name for name in world.hosts if rng.random() < 0.8])

    def test_speakers(self):
        for speakers in (["y", "x", "p", "x"], {"x", "y", "p"}, ("p", "x", "y"), None):
            self.assert_same(talk(ONE, "x", "y", speakers=speakers), talk(ONE, "x", "y"))
            self.assertIs(shows_talk(ONE, "x", "y", ("talk", PLAN), speakers=speakers), True)

    def test_errors_in_their_order(self):
        asks = (lambda *given, **named: shows_talk(*given, ("talk", PLAN), **named), talk, even)
        for ask in asks:
            for value in values_but(["x", "y", "p"]):
                self.assert_raises(NoStation, {"name": value}, ask, ONE, value, "x")
                self.assert_raises(NoStation, {"name": value}, ask, ONE, "x", value)
                self.assert_raises(NoStation, {"name": value}, ask, ONE, value, value)
                self.assert_raises(NoStation, {"name": value}, ask, ONE, "x", "y", speakers=("x", value))
                self.assert_raises(NoStation, {"name": value}, ask, ONE, value, None, speakers=["q"])
                self.assert_raises(NoStation, {"name": value}, ask, ONE, "x", value, speakers=["q"])
            self.assert_raises(NoStation, {"name": "x"}, ask, ONE, "x", "x")
            self.assert_raises(NoStation, {"name": "x"}, ask, ONE, "x", "x", speakers=["q"])
            self.assert_raises(NoStation, {"name": "b"}, ask, ONE, "x", "y", speakers={"q", "b", "p"})


class ShowsTalkTest(Checks, unittest.TestCase):

    def assert_talk(self, thing, x="x", y="y", world=ONE, speakers=None):
        self.assertIs(shows_talk(world, x, y, thing, speakers=speakers), True, thing)

    def assert_no_talk(self, thing, x="x", y="y", world=ONE, speakers=None):
        self.assertIs(shows_talk(world, x, y, thing, speakers=speakers), False, thing)

    def test_the_example(self):
        self.assert_talk(("talk", PLAN))
        self.assertIs(shows_talk(world=ONE, x="x", y="y", thing=("talk", PLAN), speakers=None), True)
        self.assert_talk(("talk", PLAN), "y", "x")
        self.assert_no_talk(("talk", PLAN), world=STRICT)
        self.assert_no_talk(("talk", PLAN[:2]))
        self.assert_no_talk(("talk", PLAN), "x", "p")
        self.assert_no_talk(("talk", ()))

    def test_rows_may_stand_behind_the_later_delivery(self):
        self.assert_talk(("talk", PLAN + ((4, "x", ("own", 1)), (9, "y", ("blind", 5)))))
        self.assert_no_talk(("talk", PLAN + ((4, "x", ("own", 1)), (4, "x", ("own", 1)))))

    def test_the_fewest_rounds_are_not_asked(self):
        self.assert_talk(("talk", ((2, "x", ("own", 1)), (4, "y", A1), (10 ** 59, "x", B5))))
        self.assert_talk(("talk", ((1, "x", ("own", 2)), (7, "y", ("own", 1)))), world=OPEN)
        self.assert_talk(("talk", ((1, "y", ("own", 1)), (7, "x", ("own", 2)))), world=OPEN)
        self.assert_talk(("talk", ((1, "x", ("own", 2)), (1, "y", ("own", 1)))), world=OPEN)
        self.assert_no_talk(("talk", ((1, "x", ("own", 2)), (7, "y", ("own", 3)))), world=OPEN)

    def test_one_way(self):
        _, _, rows, bound = talk(STRICT, "x", "y")
        for x, y in (("x", "y"), ("y", "x")):
            self.assert_talk(("one way", "x", rows, bound), x, y, world=STRICT)
            self.assert_no_talk(("one way", "y", rows, bound), x, y, world=STRICT)
            self.assert_no_talk(("one way", "p", rows, bound), x, y, world=STRICT)
            self.assert_no_talk(("one way", "x", rows + ((3, "x", ("own", 1)),), bound), x, y, world=STRICT)
            self.assert_no_talk(("one way", "x", rows[:1], bound), x, y, world=STRICT)
            self.assert_no_talk(("one way", "x", rows, (None, ())), x, y, world=STRICT)
            self.assert_no_talk(("one way", "x", rows, (3, bound[1])), x, y, world=STRICT)
            self.assert_no_talk(("one way", "x", rows, (1, ())), x, y, world=STRICT)
            self.assert_no_talk(("one way", "x", rows), x, y, world=STRICT)
            self.assert_no_talk(("one way", "x", rows, bound, bound), x, y, world=STRICT)
        # both hear in ONE
        self.assert_no_talk(("one way", "x", rows, bound))

    def test_a_bound_for_the_other_direction_is_not_enough(self):
        world = ALONE.with_part(("host", "p", "", 1))
        _, _, rows, bound = talk(STRICT, "x", "y")
        self.assert_no_talk(("never", bound, bound), world=STRICT)
        self.assert_no_talk(("never", bound, bound), world=world)
        self.assert_no_talk(("one way", "y", rows, bound), world=STRICT)

    def test_never(self):
        thing = ("never", (None, ()), (None, ()))
        self.assert_talk(thing, world=ALONE)
        self.assert_talk(thing, speakers=())
        self.assert_no_talk(thing)
        a10 = ("lent", "a", ("own", 10), None)
        # a bound may list more, but not so much that x would hear y
        self.assert_no_talk(("never", (None, ()), (None, ((1, a10),))), world=ALONE)
        barring = ALONE.with_kind("a", Kind("one", "both"))
        self.assert_talk(("never", (None, ((1, a10),)), (None, ())), world=barring.with_kind("b", Kind("both", "any")))
        self.assert_no_talk(("never", (1, ()), (None, ())), world=ALONE)
        self.assert_no_talk(("never", (None, ()), (1, ())), world=ALONE)
        self.assert_no_talk(("never", (None, ())), world=ALONE)
        self.assert_no_talk(("never", (None, ()), (None, ()), (None, ())), world=ALONE)

    def test_any_value(self):
        _, _, rows, bound = talk(STRICT, "x", "y")
        for value in any_values():
            for thing in (value, (value,), ("talk", value), (value, PLAN), ("talk", PLAN, value), ("talk", PLAN + (value,)),
                          ("never", value, value), ("never", (None, ()), value), ("one way", "x", value, bound),
                          ("one way", "x", rows, value), (value, "x", rows, bound)):
                self.assert_no_talk(thing)
                self.assert_no_talk(thing, world=STRICT)
            if not (isinstance(value, str) and value == "x"):
                self.assert_no_talk(("one way", value, rows, bound), world=STRICT)
        for thing in (["talk", PLAN], ("talk",), (), ("talk", list(PLAN)), ("Talk", PLAN), ("one way", ["x"], rows, bound),
                      ("never",), ("one way",), {"talk": PLAN}, PLAN, "talk", ("x", PLAN), ("one_way", "x", rows, bound)):
            self.assert_no_talk(thing)
            self.assert_no_talk(thing, world=STRICT)

    def test_each_changed_part(self):
        for world in (ONE, STRICT, ALONE, OPEN):
            model = ModelOfTalks(world)
            for thing in changed(talk(world, "x", "y")):
                self.assertIs(shows_talk(world, "x", "y", thing), model.shows("x", "y", thing), thing)

    def test_changed_parts_in_random_worlds(self):
        for seed in range(100):
            rng = random.Random(seed)
            world = random_world(rng, gates=5, hosts=4, last=12)
            speakers = None if rng.random() < 0.5 else [name for name in world.hosts if rng.random() < 0.8]
            model = ModelOfTalks(world, speakers)
            for x, y in two_hosts(world):
                for thing in some_changed(talk(world, x, y, speakers=speakers), rng, 8):
                    self.assertIs(shows_talk(world, x, y, thing, speakers=speakers), model.shows(x, y, thing),
                                  (str(world), x, y, thing))


class EvenTest(Checks, unittest.TestCase):

    def test_the_example(self):
        self.assertIsNone(even(ONE, "x", "y"))
        self.assertEqual(talk(ONE, "x", "y")[0], "talk")

    def test_talkers(self):
        n, s = even(TALKERS, "x", "y")
        self.assertEqual((show_name(n), show_name(s)), ("b(10)", "a(10|b(10))"))
        self.assert_same(even(world=TALKERS, x="y", y="x", speakers=None), (s, n))

    def test_own_names(self):
        self.assert_same(even(OPEN, "x", "y"), (("own", 2), ("own", 1)))
        self.assert_same(even(OPEN, "z", "y"), (("own", 2), ("own", 3)))
        self.assert_same(even(OPEN.with_part(("gate", "a", "", 5, Kind("one", "any"))), "z", "y"), (("own", 2), ("own", 3)))
        inner = World(("gate", "a", "", 5, Kind("one", "any")), ("host", "x", "a", 10), ("host", "p", "", 1))
        self.assert_same(even(inner, "x", "p"), (("own", 1), ("lent", "a", ("own", 10), None)))
        self.assert_same(even(inner, "p", "x"), (("lent", "a", ("own", 10), None), ("own", 1)))

    def test_a_host_that_does_not_speak(self):
        for speakers in (["x", "z"], ["y"], ()):
            self.assertIsNone(even(OPEN, "x", "y", speakers=speakers))
        self.assert_same(even(OPEN, "x", "y", speakers=["y", "x"]), (("own", 2), ("own", 1)))

    def test_the_first_by_texts(self):
        # b lends by the address of the target, so y shows itself by several names
        world = ONE.with_kind("a", Kind("one", "any")).with_kind("b", Kind("far", "any"))
        self.assert_same(even(world, "x", "y"), (("lent", "b", ("own", 10), 5), ("lent", "a", ("own", 10), None)))
        loose = Kind("one", "any", turns=True)
        world = World(("gate", "a", "", 5, loose), ("gate", "c", "a", 6, loose), ("gate", "d", "a", 7, loose),
                      ("host", "x", "c", 10), ("host", "y", "d", 11), ("host", "h", "a", 12), ("host", "p", "", 1))
        found = [(show_name(n), show_name(s)) for n, s in self.all_evens(world, "x", "y")]
        self.assertEqual(found, [("a(d(11))", "a(c(10))"), ("d(11)", "c(10)")])
        self.assertEqual(tuple(show_name(name) for name in even(world, "x", "y")), found[0])
        # n counts before s
        world = World(("gate", "e", "", 5, loose), ("gate", "f", "e", 6, loose), ("gate", "d", "e", 7, loose),
                      ("host", "x", "f", 10), ("host", "y", "d", 11), ("host", "h", "e", 12), ("host", "p", "", 1))
        self.assertEqual([show_name(name) for name in even(world, "x", "y")], ["d(11)", "f(10)"])
        self.assertEqual([show_name(name) for name in even(world, "y", "x")], ["e(f(10))", "e(d(11))"])
        # own names come before lent ones
        world = World(("gate", "a", "", 5, loose), ("host", "x", "a", 10), ("host", "y", "a", 11), ("host", "p", "", 1))
        self.assertEqual(len(self.all_evens(world, "x", "y")), 2)
        self.assert_same(even(world, "x", "y"), (("own", 11), ("own", 10)))

    def all_evens(self, world, x, y, speakers=None):
        """All pairs by which the talk is even, by the words of [21]."""
        closure = Closure(world, speakers=speakers)
        names = closure.known(closure.rounds + 2)
        sends = [(host, name) for host in closure.speakers for name in names]
        if x not in closure.speakers or y not in closure.speakers:
            return []
        found = []
        for n in names:
            for s in names:
                if "blind" not in (n[0], s[0]) and (is_plain(world, n) or is_plain(world, s)):
                    if walk(world, sends, x, n) == ("heard", y, s) and walk(world, sends, y, s) == ("heard", x, n):
                        found.append((n, s))
        return sorted(found, key=lambda pair: (show_name(pair[0]), show_name(pair[1])))

    def test_random_worlds(self):
        some = 0
        for seed in range(60):
            rng = random.Random(seed)
            world = random_world(rng, gates=3, hosts=3, last=10)
            speakers = None if rng.random() < 0.6 else [name for name in world.hosts if rng.random() < 0.8]
            for x, y in two_hosts(world):
                found = self.all_evens(world, x, y, speakers)
                self.assert_same(even(world, x, y, speakers=speakers), found[0] if found else None)
                some += len(found) > 0
        self.assertGreater(some, 20)

    def test_an_even_talk_is_a_talk(self):
        for world in WORLDS + (BIG,):
            for x, y in two_hosts(world):
                if even(world, x, y) is not None:
                    self.assertEqual(talk(world, x, y)[0], "talk")
                    self.assertIsNotNone(even(world, y, x))


class MeetingTest(Checks, unittest.TestCase):

    def check(self, world, hosts, speakers=None):
        closure = Closure(world, speakers=speakers)
        names = sorted(set(hosts))
        deaf = [(x, y) for x in names for y in names if x != y and not closure.heard(x, y)]
        thing = meeting(world, hosts, speakers=speakers)
        if deaf:
            self.assertEqual(thing[:3], ("not",) + deaf[0])
            self.assertEqual(len(thing), 4)
            self.assertIsNone(thing[3][0])
            self.assertIs(shows_late(world, *deaf[0], thing[3], speakers=speakers), True)
            return
        word, rows = thing
        self.assertEqual(word, "all")
        if len(names) < 2:
            self.assert_same(rows, ())
            return
        self.assertEqual(rows[-1][0], max(closure.first(x, y) for x in names for y in names if x != y))
        heard = [row[1:] for row in NameModel(world, speakers).deliveries(rows)]
        for x in names:
            for y in names:
                self.assertTrue(x == y or (x, y) in heard)

    def test_fewer_than_two_hosts(self):
        for hosts in ((), [], set(), ("x",), ["x", "x"], {"y"}):
            self.assert_same(meeting(ALONE, hosts), ("all", ()))
            self.assert_same(meeting(ALONE, hosts, speakers=()), ("all", ()))

    def test_two_hosts(self):
        word, rows = meeting(world=ONE, hosts=("x", "y"), speakers=None)
        self.assertEqual((word, rows[-1][0]), ("all", 3))
        self.assertIs(shows_talk(ONE, "x", "y", ("talk", rows)), True)
        self.assert_same(meeting(STRICT, ["y", "x"]), ("not", "x", "y", late(STRICT, "x", "y")))
        self.assert_same(meeting(ALONE, ["y", "x"]), ("not", "x", "y", (None, ())))
        self.assertEqual(meeting(ONE, ("x", "p"), speakers=["p"])[:3], ("not", "p", "x"))
        self.assertEqual(meeting(ONE, ("x", "p"), speakers=["x"])[:3], ("not", "p", "x"))

    def test_order_kind_and_repetition_of_hosts_mean_nothing(self):
        for world in (ONE, STRICT):
            for hosts in (("x", "y", "p"), ["y", "p", "x"], {"x", "y", "p"}, ("p", "x", "x", "y", "p")):
                self.assert_same(meeting(world, hosts), meeting(world, world.hosts))

    def test_three_hosts(self):
        self.check(ONE, ("x", "y", "p"))
        self.assertEqual(meeting(ONE, ("x", "y", "p"))[1][-1][0], 3)
        self.assertEqual(meeting(STRICT, ("x", "y", "p"))[:3], ("not", "x", "y"))

    def test_many_worlds(self):
        for world in WORLDS + (BIG,):
            self.check(world, world.hosts)
            self.check(world, world.hosts[:2])
            self.check(world, world.hosts[1:], world.hosts[:-1])
        words = []
        for seed in range(80):
            rng = random.Random(seed)
            world = random_world(rng, gates=3, hosts=4, last=12)
            hosts = [name for name in world.hosts if rng.random() < 0.7]
            self.check(world, hosts)
            words.append(meeting(world, hosts)[0])
        self.assertEqual(set(words), {"all", "not"})

    def test_wrong_hosts_in_their_order(self):
        for value in values_but(["x", "y", "p"]):
            self.assert_raises(NoStation, {"name": value}, meeting, ONE, (value,))
            self.assert_raises(NoStation, {"name": value}, meeting, ONE, ["x", value, "y"])
            self.assert_raises(NoStation, {"name": value}, meeting, ONE, ["x", value], speakers=["q"])
            self.assert_raises(NoStation, {"name": value}, meeting, ONE, ["x", "y"], speakers=[value])
        self.assert_raises(NoStation, {"name": "b"}, meeting, ONE, {"q", "b", "x"})
        self.assert_raises(NoStation, {"name": 10}, meeting, ONE, [2, None, 10])
        self.assert_raises(NoStation, {"name": ()}, meeting, ONE, [[], {}, ()])


if __name__ == "__main__":
    unittest.main()
