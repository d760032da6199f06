"""Plans ([12], [18])."""

import random
import unittest

from meetbehind.closure import Closure
from meetbehind.errors import InvalidName, InvalidPort, NoStation, NotSeen
from meetbehind.kinds import Kind
from meetbehind.named import NamedNet
from meetbehind.names import show_name
from meetbehind.nets import Net
from meetbehind.plans import play, reach
from meetbehind.ports import Ports
from meetbehind.worlds import World
from tests.model import NameModel, random_world
from tests.samples import A1, A7, B1, B5, Checks, CHAIN, DEEP, INNER, ONE, SIX, STRICT, values_but

PLAN = ((1, "x", ("own", 1)), (2, "y", A1), (3, "x", B5))


def pairs(world):
    return [(x, y) for x in world.hosts for y in world.hosts]


def choices(seed):
    """Several ways to choose ports."""
    rng = random.Random(seed)

    def fresh(gate, used):
        while True:
            port = rng.randint(2, 10 ** 9)
            if port not in used:
                return port

    def low(gate, used):
        return rng.choice([port for port in range(2, 9 + len(used)) if port not in used])
    return [None, Ports(30, 40), Ports(7, 6, 5, 4, 3, 2), Ports(10 ** 9, 5), fresh, low]


def state(net):
    return (net.log, net.told, [net.entries(gate) for gate in net.world.gates], net.known_names)


class ReachTest(Checks, unittest.TestCase):

    def test_the_example(self):
        self.assert_same(reach(ONE, "y", "x"), ("heard", ((1, "x", ("own", 1)), (2, "y", A1))))

    def test_never(self):
        self.assert_same(reach(STRICT, "x", "y"), ("never", (A1, B1, B5)))
        self.assert_same(reach(ONE, "x", "y", speakers=["x", "y"]), ("never", ()))
        self.assert_same(reach(ONE, "x", "x", speakers=()), ("never", ()))
        names = reach(INNER, "x", "y", speakers=("x", "y", "p"))[1]
        self.assertEqual([show_name(name) for name in names], ["c(a(10))", "c(b(10))"])

    def test_the_names_of_never_are_sorted_by_text(self):
        for world in (ONE, STRICT, INNER, DEEP, SIX, CHAIN):
            for x, y in pairs(world):
                word, names = reach(world, x, y)
                if word == "never":
                    self.assert_same(names, tuple(sorted(Closure(world).names, key=show_name)))

    def test_one_host(self):
        self.assert_same(reach(world=ONE, x="x", y="x"), ("heard", ((1, "x", ("own", 10)),)))
        self.assert_same(reach(ONE, "p", "p", speakers={"p"}), ("heard", ((1, "p", ("own", 1)),)))

    def test_wrong_hosts(self):
        for value in values_but(["x", "y", "p"]):
            self.assert_raises(NoStation, {"name": value}, reach, ONE, value, "x")
            self.assert_raises(NoStation, {"name": value}, reach, ONE, "x", value)
            self.assert_raises(NoStation, {"name": value}, reach, ONE, "x", "y", speakers=[value])
            self.assert_raises(NoStation, {"name": value}, reach, ONE, value, None, speakers=["q"])
            self.assert_raises(NoStation, {"name": value}, reach, ONE, "x", value, speakers=["q"])

    def test_order_kind_and_repetition_of_speakers_mean_nothing(self):
        for x, y in pairs(ONE):
            expected = reach(ONE, x, y)
            for every in (("y", "x", "p"), ["p", "x", "y", "y"], {"x", "y", "p"}, None):
                self.assert_same(reach(ONE, x, y, speakers=every), expected)

    def test_equal_worlds_have_the_same_plans(self):
        for world in (ONE, INNER, DEEP, SIX, CHAIN):
            gates = [part for part in world.parts if part[0] == "gate"]
            other = World(*gates, *[part for part in reversed(world.parts) if part[0] == "host"])
            self.assertEqual(other, world)
            for x, y in pairs(world):
                self.assert_same(reach(other, x, y), reach(world, x, y))

    def check(self, world, speakers=None):
        closure = Closure(world, speakers=speakers)
        model = NameModel(world, speakers)
        for x, y in pairs(world):
            word, rows = reach(world, x, y, speakers=speakers)
            if closure.first(x, y) is None:
                self.assert_same((word, rows), ("never", tuple(sorted(closure.names, key=show_name))))
                continue
            self.assertEqual(word, "heard")
            self.assertEqual(max(row[0] for row in rows), closure.first(x, y))
            self.assertTrue(model.shows_plan(x, y, rows), (str(world), x, y, rows))
            self.assertTrue(all(row.__class__ is tuple and row[0].__class__ is int for row in rows))

    def test_plans_of_worlds_of_the_document(self):
        for world in (ONE, STRICT, INNER, CHAIN, DEEP, SIX, World(("host", "x", "", 1), ("host", "y", "", 2))):
            self.check(world)

    def test_plans_of_random_worlds(self):
        for seed in range(200):
            self.check(random_world(random.Random(seed), gates=5, hosts=5, last=12))
        for seed in range(40):
            self.check(random_world(random.Random(seed), gates=6, hosts=8, last=40))

    def test_plans_with_random_speakers(self):
        for seed in range(100):
            rng = random.Random(seed)
            world = random_world(rng, gates=5, hosts=5, last=12)
            self.check(world, [host for host in world.hosts if rng.random() < 0.7])

    def test_the_model_tells_plans_from_others(self):
        model = NameModel(ONE)
        self.assertTrue(model.shows_plan("x", "y", PLAN))
        for at in range(3):
            self.assertFalse(model.shows_plan("x", "y", PLAN[:at] + PLAN[at + 1:]))
        self.assertFalse(model.shows_plan("x", "y", ((1, "x", ("own", 1)), (2, "x", B5), (2, "y", A1))))


class PlayTest(Checks, unittest.TestCase):

    def test_a_plan(self):
        net = NamedNet(ONE, choose=Ports(30, 40))
        self.assert_same(play(net, PLAN), (("heard", "p", A1), ("heard", "x", B5), ("heard", "y", A7)))
        self.assertEqual(net.known_names, (A1, A7, B5))
        self.assertEqual(len(net.log), 3)
        self.assert_same(play(net=net, rows=()), ())

    def test_rows_in_any_order(self):
        net = NamedNet(ONE)
        rows = ((9, "x", ("own", 1)), (9, "x", ("own", 1)), (1, "p", ("own", 10)), (-5, "y", A1))
        self.assert_same(play(net, rows), (("heard", "p", A1), ("heard", "p", A1), ("lost", "nowhere", ""), ("heard", "x", B5)))

    def test_errors_leave_the_net_as_before(self):
        net = NamedNet(ONE)
        net.send_to("x", ("own", 1))
        before = state(net)
        for row, error, fields in (((1, "y", A7), NotSeen, {"name": A7}), ((1, "q", A1), NoStation, {"name": "q"}),
                                   ((1, "y", ("own", 5)), InvalidName, {"name": ("own", 5)}),
                                   ((1, "a", ("own", 5)), NoStation, {"name": "a"}), ((1, None, None), NoStation, {"name": None})):
            self.assert_raises(error, fields, play, net, ((1, "y", A1), (1, "x", ("blind", 7)), row, (1, "x", B5)))
            self.assertEqual(state(net), before)
        # also the ports used so far are as before
        net.send_to("x", ("blind", 7))
        self.assertEqual([row[2] for row in net.entries("a")], [2, 3])

    def test_errors_of_choose_leave_the_net_as_before(self):
        class Odd(Exception):
            pass

        def choose(gate, used):
            if gate == "b":
                raise Odd()
            return len(used) + 2
        net = NamedNet(ONE, choose=choose)
        before = state(net)
        with self.assertRaises(Odd):
            play(net, PLAN)
        self.assertEqual(state(net), before)
        self.assertEqual(net.send_to("x", ("own", 1)), ("heard", "p", A1))
        self.assertEqual(net.endpoint(A1), (5, 2))
        net = NamedNet(ONE, choose=lambda gate, used: 4 if gate == "a" else 1)
        self.assert_raises(InvalidPort, {"port": 1}, play, net, PLAN)
        self.assertEqual(state(net), before)
        self.assertEqual(play(net, PLAN[:1]), (("heard", "p", A1),))

    def test_play_within_a_trial(self):
        net = NamedNet(ONE)
        with net.trial() as held:
            play(held, PLAN)
            with self.assertRaises(NotSeen):
                play(held, ((1, "y", ("lent", "b", ("own", 10), ("own", 10))),))
            self.assertEqual(len(held.log), 3)
        self.assertEqual(state(net), state(NamedNet(ONE)))

    def assert_played(self, world, seed, speakers=None):
        for x, y in pairs(world):
            word, rows = reach(world, x, y, speakers=speakers)
            if word == "never":
                continue
            for choose in choices(seed):
                results = play(NamedNet(world, choose=choose), rows)
                heard = [row for row, result in zip(rows, results) if row[1] == x and result[:2] == ("heard", y)]
                self.assertTrue(heard, (str(world), x, y, rows, results))
                self.assertLessEqual(heard[-1][0], Closure(world, speakers=speakers).first(x, y))

    def test_plans_of_reach_let_y_hear_x_whatever_ports_are_chosen(self):
        for world in (ONE, STRICT, INNER, CHAIN, DEEP, SIX):
            self.assert_played(world, 1)

    def test_plans_of_random_worlds(self):
        for seed in range(120):
            self.assert_played(random_world(random.Random(seed), gates=5, hosts=4, last=12), seed)
        for seed in range(20):
            self.assert_played(random_world(random.Random(seed), gates=6, hosts=8, last=40), seed)

    def test_packets_of_one_round_in_any_order(self):
        for seed in range(80):
            rng = random.Random(seed)
            world = random_world(rng, gates=5, hosts=4, last=12)
            for x, y in pairs(world):
                word, rows = reach(world, x, y)
                if word == "heard":
                    mixed = tuple(sorted(rows, key=lambda row: (row[0], rng.random())))
                    results = play(NamedNet(world), mixed)
                    self.assertTrue([1 for row, result in zip(mixed, results)
                                     if row[1] == x and result[:2] == ("heard", y)])


class ProgramsTest(Checks, unittest.TestCase):
    """What no program can do, as far as many random packets can tell it ([8], [12])."""

    def assert_only_what_the_closure_tells(self, world, seed, speakers):
        rng = random.Random(seed)
        closure = Closure(world, speakers=speakers)
        net = Net(world, choose=lambda gate, used: 100 + 1000 * len(used) + rng.randint(0, 999))
        tries = [(world.address(name), port) for name in world.gates + world.hosts for port in (0, 1, 2)]
        told = []
        for _ in range(250):
            if not speakers:
                break
            host = rng.choice(speakers)
            target = rng.choice(rng.choice([tries, told or tries, told[-4:] or tries]))
            result = net.send(host, target)
            if result[0] == "heard":
                self.assertIsNotNone(closure.first(host, result[1]), (str(world), host, target, net.log))
                if result[1] in speakers and result[2] not in told:
                    told.append(result[2])

    def test_random_programs(self):
        for world in (ONE, STRICT, INNER, CHAIN, DEEP, SIX):
            for seed in range(5):
                self.assert_only_what_the_closure_tells(world, seed, world.hosts)
        for seed in range(150):
            rng = random.Random(seed)
            world = random_world(rng, gates=5, hosts=5, last=15)
            speakers = [host for host in world.hosts if rng.random() < 0.8]
            self.assert_only_what_the_closure_tells(world, seed, speakers)

    def test_a_kind_that_bars_is_told_apart(self):
        world = STRICT.with_kind("a", Kind("one", "any"))
        self.assertEqual([Closure(world).first("x", "y"), Closure(STRICT).first("x", "y")], [3, None])


if __name__ == "__main__":
    unittest.main()
