"""The closure of all that can be known and delivered ([11], [17], [25])."""

import inspect
import random
import unittest

from meetbehind.closure import Closure
from meetbehind.errors import InvalidName, NoRound, NoStation
from meetbehind.kinds import Kind
from meetbehind.names import show_name
from meetbehind.packets import walk
from meetbehind.worlds import World
from tests.model import NameModel, random_world, text_of
from tests.samples import A1, A7, any_values, B1, B5, Checks, CHAIN, DEEP, INNER, ONE, SIX, STRICT, values_but


def told(closure):
    return (closure.speakers, closure.names, closure.rounds, list(closure.arrivals()))


class ExamplesTest(Checks, unittest.TestCase):

    def test_rounds_of_one(self):
        closure = Closure(ONE)
        self.assertEqual([closure.first("y", "x"), closure.first("x", "y"), closure.rounds], [2, 3, 4])
        self.assert_same(closure.names, (A1, B1, B5, A7))
        rows = list(closure.arrivals())
        own = [(1, host, ("own", 10), host, ("own", 10)) for host in "xy"]
        self.assert_same(rows, [
            (1, "p", ("own", 1), "p", ("own", 1)), (1, "x", ("own", 1), "p", A1), own[0], (1, "y", ("own", 1), "p", B1),
            own[1], (2, "p", A1, "x", ("own", 1)), (2, "p", B1, "y", ("own", 1)), (2, "y", A1, "x", B5),
            (3, "x", B5, "y", A7), (4, "p", A7, "x", ("own", 1)), (4, "y", A7, "x", B5)])
        self.assertIs(closure.world, ONE)
        self.assertEqual(closure.speakers, ("p", "x", "y"))

    def test_both_bars_what_is_not_plain(self):
        closure = Closure(STRICT)
        self.assertIsNone(closure.first("x", "y"))
        self.assertIs(closure.heard("x", "y"), False)
        self.assertIs(closure.heard(x="y", y="x"), True)
        self.assertEqual(closure.names, (A1, B1, B5))

    def test_inner(self):
        self.assertEqual([Closure(INNER).first("x", "y"), Closure(INNER).first("y", "x")], [2, 3])
        few = Closure(INNER, speakers=["x", "y", "p"])
        self.assertIsNone(few.first("x", "y"))
        names = {show_name(name): few.told_in(name) for name in few.names}
        self.assertEqual(names, {"c(a(10))": 1, "c(b(10))": 1})
        closure = Closure(INNER)
        self.assertEqual(closure.told_in(("lent", "b", ("own", 10), None)), 1)
        self.assertEqual(closure.told_in(("lent", "a", ("own", 10), None)), 2)
        self.assertIn((1, "h", ("own", 22), "h", ("own", 22)), list(closure.arrivals()))
        self.assertIn((1, "x", ("own", 22), "z", ("own", 10)), list(closure.arrivals()))

    def test_what_the_text_tells_of_one(self):
        first = [(host, name) for host in ONE.hosts for name in Closure(ONE).known(1)]
        second = first + [(host, name) for host in ONE.hosts for name in (A1, B1)]
        self.assert_same(walk(ONE, first, "y", A1), ("heard", "x", B5))
        # y sent to address 1 by this entry, and the source has address 5
        self.assert_same(walk(ONE, first, "x", B1), ("lost", "barred", "b"))
        self.assert_same(walk(ONE, second, "x", B5), ("heard", "y", A7))
        third = second + [(host, B5) for host in ONE.hosts]
        self.assert_same(walk(ONE, third, "y", A7), ("heard", "x", B5))

    def test_what_the_text_tells_of_inner(self):
        b10, b20 = ("lent", "b", ("own", 10), None), ("blind", 20)
        self.assert_same(walk(INNER, (), "x", ("own", 22)), ("heard", "z", ("own", 10)))
        self.assert_same(walk(INNER, (), "y", ("own", 22)), ("heard", "h", b10))
        self.assert_same(walk(INNER, (), "y", b20), ("lost", "closed", "a"))
        a10 = ("lent", "a", ("own", 10), None)
        self.assert_same(walk(INNER, (("y", b20),), "x", b10), ("heard", "y", a10))
        self.assert_same(walk(INNER, (("y", ("own", 22)),), "x", b10), ("lost", "barred", "b"))
        for host in "xy":
            for inner in (a10, b10):
                name = ("lent", "c", inner, None)
                sends = (("x", ("own", 1)), ("y", ("own", 1)))
                self.assert_same(walk(INNER, sends, host, name), ("lost", "unturned", "c"))

    def test_a_chain_of_gates_is_no_gate(self):
        closure = Closure(CHAIN)
        self.assertEqual(closure.first("y", "x"), 3)
        name = ("lent", "n", ("lent", "m", ("own", 10), None), 1)
        self.assertEqual(show_name(name), "n(m(10)|1?)")
        self.assertEqual(closure.told_in(name), 1)
        self.assertIn((3, "y", name, "x", ("lent", "b", ("own", 10), None)), list(closure.arrivals()))
        single = World(("gate", "n", "", 5, Kind("far", "both")), ("gate", "b", "", 7, Kind("one", "both")),
                       ("host", "x", "n", 10), ("host", "y", "b", 10), ("host", "p", "", 1))
        self.assertIsNone(Closure(single).first("y", "x"))


class QuestionsTest(Checks, unittest.TestCase):

    def test_told_in(self):
        closure = Closure(ONE)
        self.assert_same([closure.told_in(name) for name in (("own", 1), ("blind", 5), A1, B1, B5, A7)],
                         [0, 0, 1, 1, 2, 3])
        self.assertIsNone(closure.told_in(("lent", "a", ("own", 10), ("own", 10))))
        self.assertIsNone(Closure(ONE, speakers=()).told_in(name=A1))
        self.assert_same(Closure(ONE, speakers=()).told_in(("own", 10)), 0)
        for value in values_but([("own", 10), ("own", 1), ("blind", 5), ("blind", 7), A1, B5]):
            self.assert_raises(InvalidName, {"name": value}, closure.told_in, value)

    def test_first_and_heard(self):
        closure = Closure(ONE)
        for x in "xyp":
            self.assertEqual(closure.first(x, x), 1)
            for y in "xyp":
                self.assertIs(closure.heard(x, y), closure.first(x=x, y=y) is not None)
        for value in values_but(["x", "y", "p"]):
            for ask in (closure.first, closure.heard):
                self.assert_raises(NoStation, {"name": value}, ask, value, "x")
                self.assert_raises(NoStation, {"name": value}, ask, "x", value)
                self.assert_raises(NoStation, {"name": value}, ask, value, None)

    def test_known(self):
        closure = Closure(ONE)
        always = [("own", 1), ("own", 10), ("blind", 5), ("blind", 7)]
        self.assert_same(closure.known(1), tuple(sorted(always, key=show_name)))
        self.assert_same(closure.known(number=2), tuple(sorted(always + [A1, B1], key=show_name)))
        self.assert_same(closure.known(3), tuple(sorted(always + [A1, B1, B5], key=show_name)))
        everything = tuple(sorted(always + [A1, B1, B5, A7], key=show_name))
        for number in (4, 5, 10 ** 59):
            self.assert_same(closure.known(number), everything)
        for value in any_values():
            if not (isinstance(value, int) and value is not True and value >= 1):
                self.assert_raises(NoRound, {"number": value}, closure.known, value)

    def test_arrivals_is_a_generator(self):
        self.assertTrue(inspect.isgenerator(Closure(ONE).arrivals()))
        closure = Closure(ONE)
        rows = list(closure.arrivals())
        self.assertEqual(list(closure.arrivals()), rows)

    def test_attributes_are_only_read(self):
        closure = Closure(ONE)
        for name in ("world", "speakers", "names", "rounds"):
            with self.assertRaises(AttributeError):
                setattr(closure, name, ())


class SpeakersTest(Checks, unittest.TestCase):

    def test_no_speaker(self):
        closure = Closure(ONE, speakers=())
        self.assert_same(told(closure), ((), (), 0, []))
        self.assertIsNone(closure.first("x", "x"))
        self.assertEqual(len(closure.known(5)), 4)

    def test_one_speaker(self):
        closure = Closure(ONE, speakers=["x"])
        self.assert_same(told(closure), (("x",), (), 1, [
            (1, "x", ("own", 1), "p", A1), (1, "x", ("own", 10), "x", ("own", 10))]))
        self.assertEqual((closure.first("x", "p"), closure.first("x", "x"), closure.first("p", "p")), (1, 1, None))

    def test_order_kind_and_repetition_mean_nothing(self):
        for many in (("x", "p"), ["p", "x"], {"x", "p"}, ("p", "x", "p", "x"), ["x", "x", "p"]):
            self.assert_same(told(Closure(ONE, speakers=many)), told(Closure(ONE, speakers=("p", "x"))))
        for every in (None, ("p", "x", "y"), ["y", "x", "p"], {"x", "y", "p"}, ("y", "p", "x", "x")):
            self.assert_same(told(Closure(ONE, speakers=every)), told(Closure(ONE)))

    def test_a_host_that_does_not_speak_hears_but_tells_nothing(self):
        closure = Closure(ONE, speakers=("x", "y"))
        self.assertEqual(closure.first("x", "p"), 1)
        self.assertEqual(closure.names, ())

    def test_wrong_speakers(self):
        for value in values_but(["x", "y", "p"]):
            self.assert_raises(NoStation, {"name": value}, Closure, ONE, speakers=[value])
            self.assert_raises(NoStation, {"name": value}, Closure, ONE, speakers=("x", value, "x"))
        self.assert_raises(NoStation, {"name": "a"}, Closure, ONE, speakers={"a"})

    def test_the_first_in_the_order_of_the_texts_of_reprs(self):
        self.assert_raises(NoStation, {"name": "b"}, Closure, ONE, speakers=("c", "x", "b", "d"))
        self.assert_raises(NoStation, {"name": "b"}, Closure, ONE, speakers={"c", "x", "b", "d"})
        self.assert_raises(NoStation, {"name": "z"}, Closure, ONE, speakers=[None, "z", 7])
        self.assert_raises(NoStation, {"name": 10}, Closure, ONE, speakers=[2, 10, None, True])
        self.assert_raises(NoStation, {"name": ()}, Closure, ONE, speakers=[[], (), {}, None, ["x"]])
        self.assert_raises(NoStation, {"name": "'"}, Closure, ONE, speakers=["z", "'"])

    def test_speakers_come_before_forgets(self):
        self.assert_raises(NoStation, {"name": "z"}, Closure, ONE, speakers=["z"], forgets=["q"])
        self.assert_raises(NoStation, {"name": "q"}, Closure, ONE, speakers=["x"], forgets=["q"])


class ForgetsTest(Checks, unittest.TestCase):

    def test_wrong_gates(self):
        for value in values_but(["a", "b"]):
            self.assert_raises(NoStation, {"name": value}, Closure, ONE, forgets=(value,))
        self.assert_raises(NoStation, {"name": "p"}, Closure, ONE, forgets=("y", "x", "p", "a"))

    def test_order_kind_and_repetition_mean_nothing(self):
        expected = told(Closure(ONE, forgets=("a", "b")))
        for gates in (["b", "a"], {"a", "b"}, ("b", "a", "b")):
            self.assert_same(told(Closure(ONE, forgets=gates)), expected)

    def test_all_gates_forget(self):
        closure = Closure(ONE, forgets=("a", "b"))
        self.assertEqual((closure.names, closure.rounds), ((), 1))
        self.assertEqual([closure.first("x", "p"), closure.first("x", "y"), closure.first("p", "x")], [1, None, None])
        # what is shown is shown as any other source
        self.assertIn((1, "x", ("own", 1), "p", A1), list(closure.arrivals()))
        self.assertIsNone(closure.told_in(A1))

    def test_one_gate_forgets(self):
        closure = Closure(ONE, forgets=("b",))
        self.assertEqual([closure.first("y", "x"), closure.first("x", "y")], [2, None])
        self.assertEqual(closure.names, (A1,))
        closure = Closure(ONE, forgets=("a",))
        self.assertEqual([closure.first("y", "x"), closure.first("x", "y")], [None, None])
        opened = ONE.with_kind("b", Kind("one", "far"))
        self.assertEqual(Closure(opened, forgets=("a",)).first("x", "y"), 2)

    def test_a_name_in_which_a_gate_occurs_that_forgets_is_not_plain(self):
        world = ONE.with_kind("a", Kind("one", "any")).with_kind("b", Kind("one", "both"))
        self.assertEqual(Closure(world).first("x", "y"), 3)
        self.assertIsNone(Closure(world, forgets=("a",)).first("x", "y"))

    def test_all_gates_forget_in_each_world(self):
        for world in (ONE, STRICT, INNER, CHAIN, DEEP, SIX):
            closure = Closure(world, forgets=world.gates)
            self.assertEqual(closure.names, ())
            for _, sender, _, host, _ in closure.arrivals():
                self.assertTrue(world.realm(host) == "" or world.realm(host) in world.chain(sender))


class WorldsTest(Checks, unittest.TestCase):

    def test_the_empty_world(self):
        self.assert_same(told(Closure(World())), ((), (), 0, []))
        self.assertEqual(Closure(World()).known(1), ())

    def test_no_hosts(self):
        world = World(("gate", "a", "", 5, Kind("one", "any")))
        self.assert_same(told(Closure(world)), ((), (), 0, []))
        self.assertEqual(Closure(world).known(1), (("blind", 5),))

    def test_no_gates(self):
        world = World(("host", "x", "", 1), ("host", "y", "", 99))
        self.assert_same(told(Closure(world)), (("x", "y"), (), 1, [
            (1, "x", ("own", 1), "x", ("own", 1)), (1, "x", ("own", 99), "y", ("own", 1)),
            (1, "y", ("own", 1), "x", ("own", 99)), (1, "y", ("own", 99), "y", ("own", 99))]))

    def test_a_gate_that_turns(self):
        parts = (("host", "x", "a", 10), ("host", "y", "a", 10 + 1))
        for turns in (False, True):
            world = World(("gate", "a", "", 5, Kind("one", "far", turns=turns)), *parts)
            self.assertEqual(Closure(world).first("x", "y"), 1)
        inside = (("host", "x", "a", 10), ("gate", "b", "a", 10 + 1, Kind("one", "any")), ("host", "y", "b", 10))
        for turns, first in ((False, None), (True, 3)):
            world = World(("gate", "a", "", 5, Kind("one", "any", turns=turns)), *inside, ("host", "p", "", 1))
            self.assertEqual(Closure(world).first("x", "y"), 2 if turns else None)
            self.assertEqual(Closure(world).first("y", "x"), 2 if turns else None)

    def test_a_quiet_round_may_open_entries(self):
        # nothing is told in round 1, but what is sent then lets something in in round 2
        world = World(("gate", "a", "", 5, Kind("one", "far", turns=True)), ("host", "x", "a", 10))
        closure = Closure(world)
        self.assertEqual((closure.rounds, closure.names), (1, ()))

    def test_rounds_that_random_worlds_need(self):
        rounds = [Closure(random_world(random.Random(seed), gates=6, hosts=6)).rounds for seed in range(150)]
        self.assertGreaterEqual(max(rounds), 4)

    def test_equal_worlds(self):
        for world in (ONE, INNER, DEEP, SIX):
            parts = list(world.parts)
            gates = [part for part in parts if part[0] == "gate"]
            other = World(*gates, *reversed(parts[len(gates):]))
            self.assert_same(told(Closure(world)), told(Closure(other)))


class RandomTest(Checks, unittest.TestCase):

    def compare(self, world, speakers, forgets):
        closure = Closure(world, speakers=speakers, forgets=forgets)
        since, arrivals = NameModel(world, speakers, forgets).closure()
        self.assert_same(list(closure.arrivals()), sorted(arrivals, key=lambda row: (row[0], row[1], text_of(row[2]))))
        lent = [name for name in since if name[0] == "lent"]
        self.assert_same(closure.names, tuple(sorted(lent, key=lambda name: (since[name], text_of(name)))))
        for name in since:
            self.assert_same(closure.told_in(name), since[name])
        for x in world.hosts:
            for y in world.hosts:
                firsts = [row[0] for row in arrivals if (row[1], row[3]) == (x, y)]
                self.assertEqual(closure.first(x, y), min(firsts, default=None))
        self.assertEqual(closure.rounds, max([row[0] for row in arrivals], default=0))
        for number in range(1, closure.rounds + 3):
            known = sorted((name for name in since if since[name] < number), key=text_of)
            self.assert_same(closure.known(number), tuple(known))

    def test_worlds_of_the_document(self):
        for world in (ONE, STRICT, INNER, CHAIN, DEEP, SIX, World()):
            self.compare(world, None, ())

    def test_random_worlds(self):
        for seed in range(400):
            self.compare(random_world(random.Random(seed), gates=4, hosts=5), None, ())

    def test_random_deep_worlds(self):
        for seed in range(60):
            self.compare(random_world(random.Random(seed), gates=6, hosts=6, last=12), None, ())

    def test_random_large_worlds(self):
        for seed in range(40):
            self.compare(random_world(random.Random(seed), gates=6, hosts=8, last=40), None, ())

    def test_random_speakers_and_gates_that_forget(self):
        for seed in range(300):
            rng = random.Random(seed)
            world = random_world(rng, gates=4, hosts=5)
            speakers = [host for host in world.hosts if rng.random() < 0.7]
            forgets = [gate for gate in world.gates if rng.random() < 0.3]
            self.compare(world, speakers, forgets)

    def test_more_speakers_and_looser_kinds_take_nothing_away(self):
        for seed in range(100):
            rng = random.Random(seed)
            world = random_world(rng, gates=4, hosts=4)
            few = Closure(world, speakers=[host for host in world.hosts if rng.random() < 0.6])
            looser = world
            for gate in world.gates:
                looser = looser.with_kind(gate, world.kind(gate) | rng.choice([Kind("far", "both"), Kind("both", "any")]))
            for lesser, greater in ((few, Closure(world)), (Closure(world), Closure(looser))):
                for x in world.hosts:
                    for y in world.hosts:
                        if lesser.heard(x, y):
                            self.assertLessEqual(greater.first(x, y), lesser.first(x, y))


if __name__ == "__main__":
    unittest.main()
