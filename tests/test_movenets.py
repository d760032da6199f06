"""A network in which hosts move ([35], with [15] and [24])."""

import random
import unittest

from meetbehind.errors import Clash, InvalidEvent, InvalidPort, InvalidTarget, InvalidTime, NoStation, NothingToUndo
from meetbehind.kinds import Kind
from meetbehind.leftovers import event_in
from meetbehind.movenets import MoveNet
from meetbehind.named import NamedNet
from meetbehind.nets import Net, tried
from meetbehind.ports import Ports
from meetbehind.restnets import RestNet
from meetbehind.worlds import World
from tests.model import random_world, RestModel
from tests.samples import any_values, Checks, DEEP, DRIFT, INNER, ONE, SIX, values_but
from tests.test_restnets import resting

# x and z have the same address, so that one can stand where the other one stood
SWAP = World(("gate", "a", "", 5, Kind("one", "any", rests=50)), ("gate", "b", "", 7, Kind("one", "far")),
             ("host", "x", "a", 10), ("host", "z", "b", 10), ("host", "p", "", 1))


class Odd(Exception):
    pass


def state(net):
    return (str(net.world), net.now, net.log, net.told, [net.entries(gate) for gate in net.world.gates],
            [list(net.seen(host)) for host in net.world.hosts])


class MoveTest(Checks, unittest.TestCase):

    def test_a_new_network(self):
        net = MoveNet(DRIFT)
        self.assertIs(net.world, DRIFT)
        self.assert_same((net.now, net.log, net.told, net.entries("a")), (0, (), (), ()))
        self.assertIsInstance(net, RestNet)
        for name in ("now", "world", "log", "told"):
            with self.assertRaises(AttributeError):
                setattr(net, name, 1)

    def test_the_world_as_it_is_now(self):
        net = MoveNet(DRIFT)
        self.assertIsNone(net.move("x", ""))
        self.assertEqual(net.world.parts, event_in(DRIFT, ("moves", "x", "")).parts)
        self.assertIsNone(net.move(host="y", realm="a"))
        self.assertEqual(net.world.parts[2:], (("host", "p", "", 1), ("host", "x", "", 10), ("host", "y", "a", 11)))
        self.assertEqual(DRIFT.realm("x"), "a")
        net.move("x", "a")
        net.move("y", "b")
        self.assertEqual(net.world, DRIFT)

    def test_packets_go_from_where_a_host_stands_now(self):
        net = MoveNet(DRIFT)
        self.assert_same(net.send("x", (1, 1)), ("heard", "p", (5, 2)))
        net.move("x", "")
        self.assert_same(net.send("x", (1, 1)), ("heard", "p", (10, 1)))
        self.assert_same(net.send("p", (10, 1)), ("heard", "x", (1, 1)))
        net.move("x", "b")
        self.assert_same(net.send("x", (1, 1)), ("heard", "p", (7, 2)))
        self.assert_same(net.send("p", (10, 1)), ("lost", "nowhere", ""))
        self.assert_same(net.send("x", (11, 1)), ("heard", "y", (10, 1)))

    def test_entries_stay(self):
        net = MoveNet(SWAP)
        net.send("x", (1, 1))
        before = net.entries("a")
        net.move("x", "")
        self.assert_same(net.entries("a"), before)
        net.move("x", "a")
        self.assert_same(net.send("p", (5, 2)), ("heard", "x", (1, 1)))
        self.assert_same(net.send("x", (1, 1)), ("heard", "p", (5, 2)))

    def test_an_address_that_nobody_has(self):
        net = MoveNet(SWAP)
        net.send("x", (1, 1))
        net.move("x", "")
        self.assert_same(net.send("p", (5, 2)), ("lost", "gone", "a"))
        self.assert_same(net.log[-1], ("p", (5, 2), ("lost", "gone", "a")))
        self.assert_same(net.told, ((5, 2),))
        # what is closed or barred is so before
        self.assert_same(net.send("p", (5, 3)), ("lost", "closed", "a"))
        net.send("z", (99, 1))
        net.move("z", "a")
        self.assert_same(net.send("p", (7, 2)), ("lost", "barred", "b"))
        net.wait(50)
        self.assert_same(net.send("p", (5, 2)), ("lost", "closed", "a"))

    def test_another_host_that_stands_there_now(self):
        net = MoveNet(SWAP)
        net.send("x", (1, 1))
        net.move("x", "")
        net.move("z", "a")
        self.assert_same(net.send("p", (5, 2)), ("heard", "z", (1, 1)))
        self.assert_same(list(net.seen("z")), [("p", (1, 1))])
        # and it sends by the entry that is there
        self.assert_same(net.send("z", (1, 1)), ("heard", "p", (5, 2)))
        self.assert_same(len(net.entries("a")), 1)

    def test_an_inner_gate_behind_which_nobody_stands(self):
        world = DEEP.with_kind("b", Kind("far", "any")).with_kind("c", Kind("both", "any"))
        net = MoveNet(world)
        net.send("w", (99, 1))
        net.move("w", "a")
        self.assert_same(net.send("t", (5, 2)), ("lost", "gone", "c"))
        self.assert_same(net.send("v", (7, 2)), ("lost", "gone", "c"))

    def test_a_packet_that_turns_to_where_nobody_stands(self):
        world = World(("gate", "a", "", 5, Kind("one", "any", turns=True)), ("host", "x", "a", 10), ("host", "z", "a", 11))
        net = MoveNet(world)
        net.send("x", (99, 1))
        net.move("x", "")
        self.assert_same(net.send("z", (5, 2)), ("lost", "gone", "a"))
        self.assert_same(len(net.entries("a")), 2)

    def test_wrong_moves(self):
        net = MoveNet(DRIFT)
        net.send("x", (1, 1))
        before = state(net)
        for value in any_values():
            if value not in ("x", "y", "p"):
                self.assert_raises(InvalidEvent, {"event": ("moves", value, "")}, net.move, value, "")
                self.assert_raises(InvalidEvent, {"event": ("moves", value, None)}, net.move, value, None)
            if value not in ("", "a", "b"):
                self.assert_raises(InvalidEvent, {"event": ("moves", "x", value)}, net.move, "x", value)
        self.assertEqual(state(net), before)

    def test_moves_that_clash(self):
        net = MoveNet(SWAP)
        for host, realm, number in (("x", "a", 10), ("x", "b", 10), ("p", "", 1), ("z", "b", 10)):
            self.assert_raises(Clash, {"number": number}, net.move, host, realm)
        self.assertEqual(net.world, SWAP)
        # where hosts stand now is what counts
        net.move("z", "")
        net.move("x", "b")
        self.assert_raises(Clash, {"number": 10}, net.move, "z", "b")
        net.move("z", "a")
        self.assertEqual([net.world.realm(name) for name in "xz"], ["b", "a"])
        gate = SWAP.with_part(("host", "q", "a", 7))
        self.assert_raises(Clash, {"number": 7}, MoveNet(gate).move, "q", "")


class UndoTest(Checks, unittest.TestCase):

    def test_a_move_that_is_taken_back(self):
        net = MoveNet(DRIFT)
        net.send("x", (1, 1))
        before = state(net)
        net.send("y", (1, 1))
        net.move("x", "")
        net.wait(3)
        net.move("y", "a")
        net.fall("b")
        self.assertIsNone(net.undo())
        self.assertEqual(state(net), before)
        self.assertEqual(net.world.parts, DRIFT.parts)

    def test_a_move_behind_a_packet_that_stays(self):
        net = MoveNet(DRIFT)
        net.send("x", (1, 1))
        net.move("x", "")
        net.send("x", (1, 1))
        net.move("x", "b")
        net.undo()
        self.assertEqual(net.world.realm("x"), "")
        net.undo()
        self.assertEqual(net.world.realm("x"), "a")
        self.assert_same(net.log, ())

    def test_a_move_before_the_first_packet_stays(self):
        net = MoveNet(DRIFT)
        net.move("x", "")
        net.send("x", (1, 1))
        net.move("x", "b")
        net.undo(count=1)
        self.assertEqual(net.world.realm("x"), "")
        self.assert_raises(NothingToUndo, {"count": 1}, net.undo)
        self.assertEqual(net.world.realm("x"), "")

    def test_several_packets(self):
        net = MoveNet(SWAP)
        states = [state(net)]
        for host, realm, units in (("x", "", 3), ("z", "a", 60), ("x", "b", 1), ("p", "b", 2)):
            net.send(host, (1, 1))
            net.move(host, realm)
            net.wait(units)
            states.append(state(net))
        for at in (3, 2):
            net.undo()
            self.assertEqual(state(net), states[at])
        net.undo(2)
        self.assertEqual(state(net), states[0])

    def test_wrong_counts(self):
        net = MoveNet(DRIFT)
        net.send("x", (1, 1))
        net.move("x", "")
        before = state(net)
        for value in values_but([1]) + [2, 0, True]:
            self.assert_raises(NothingToUndo, {"count": value}, net.undo, value)
        self.assertEqual(state(net), before)


class TwinTest(Checks, unittest.TestCase):

    def test_a_twin_moves_alone(self):
        net = MoveNet(DRIFT, choose=Ports(30))
        net.send("x", (1, 1))
        net.move("p", "a")
        net.wait(2)
        twin = net.twin()
        self.assertIs(twin.__class__, MoveNet)
        self.assertIs(twin == net, True)
        self.assertEqual(state(twin), state(net))
        twin.move("x", "")
        self.assertEqual([one.world.realm("x") for one in (net, twin)], ["a", ""])
        self.assertIs(twin == net, False)
        twin.undo()
        self.assertEqual((twin.world, twin.now), (DRIFT, 0))
        self.assertEqual(net.world.realm("p"), "a")
        net.undo()
        self.assertIs(twin == net, True)
        self.assert_same(twin.send("x", (1, 1)), net.send("x", (1, 1)))

    def test_equal(self):
        one, two = MoveNet(DRIFT), MoveNet(DRIFT, choose=Ports(9))
        self.assertIs(one == two, True)
        one.move("x", "")
        self.assertIs(one == two, False)
        self.assertIs(one != two, True)
        # by another way to the same world
        two.move("x", "b")
        self.assertIs(one == two, False)
        two.move("x", "")
        self.assertIs(one == two, True)
        one.wait(1)
        self.assertIs(one == two, False)
        two.wait(1)
        one.send("p", (1, 1))
        self.assertIs(one == two, False)
        two.send("p", (1, 1))
        self.assertIs(one == two, True)
        self.assertIs(MoveNet(ONE) == MoveNet(DRIFT), False)
        self.assertIs(MoveNet(event_in(DRIFT, ("moves", "p", "a"))) == MoveNet(DRIFT), False)

    def test_no_other_value_is_equal(self):
        for value in any_values() + [Net(ONE), NamedNet(ONE), RestNet(ONE)]:
            if value.__class__ is not MoveNet:
                self.assertIs(MoveNet(ONE) == value, False)
                self.assertIs(value == MoveNet(ONE), False)

    def test_trials(self):
        net = MoveNet(DRIFT)
        net.send("x", (1, 1))
        net.move("x", "")
        before = state(net)
        with net.trial() as held:
            self.assertIs(held, net)
            held.move("y", "")
            held.send("y", (1, 1))
            held.undo(2)
            held.move("p", "a")
            self.assertNotEqual(state(net), before)
        self.assertEqual(state(net), before)
        with self.assertRaises(InvalidEvent):
            with net.trial():
                net.move("y", "")
                net.move("y", "q")
        self.assertEqual(state(net), before)
        self.assertIsNone(tried(net, lambda one: one.move("y", "a")))
        self.assertEqual(state(net), before)


class RestNetTest(Checks, unittest.TestCase):
    """What holds for RestNet holds for MoveNet."""

    def test_wrong_arguments(self):
        net = MoveNet(DRIFT)
        net.send("x", (1, 1))
        before = state(net)
        for value in values_but(["x", "y", "p"]):
            self.assert_raises(NoStation, {"name": value}, net.send, value, None)
            self.assert_raises(NoStation, {"name": value}, lambda one: next(net.seen(one)), value)
        for value in values_but([(1, 1)]):
            self.assert_raises(InvalidTarget, {"target": value}, net.send, "x", value)
        for value in values_but(["a", "b"]):
            self.assert_raises(NoStation, {"name": value}, net.entries, value)
            self.assert_raises(NoStation, {"name": value}, net.fall, value)
        for value in values_but([1, 2, 5, 10, 99, 100]):
            self.assert_raises(InvalidTime, {"time": value}, net.wait, value)
        self.assertEqual(state(net), before)
        self.assert_raises(InvalidPort, {"port": 1}, MoveNet(ONE, choose=lambda gate, used: 1).send, "x", (1, 1))

    def test_in_which_no_host_moves_it_tells_the_same_as_a_rest_net(self):
        worlds = [ONE, DEEP, SIX, INNER] + [random_world(random.Random(seed), gates=5, hosts=4) for seed in range(60)]
        for seed, world in enumerate(worlds):
            rng = random.Random(seed)
            world = resting(world, rng)
            one, two = MoveNet(world), RestNet(world)
            for _ in range(40):
                deed = rng.random()
                if deed < 0.15 and one.log:
                    count = rng.randint(1, min(3, len(one.log)))
                    one.undo(count)
                    two.undo(count)
                elif deed < 0.3:
                    units = rng.randint(1, 4)
                    self.assert_same(one.wait(units), two.wait(units))
                elif deed < 0.35 and world.gates:
                    gate = rng.choice(world.gates)
                    one.fall(gate)
                    two.fall(gate)
                else:
                    known = [(address, port) for address in range(1, 10) for port in (0, 1, 2)] + list(one.told) * 4
                    host, target = rng.choice(world.hosts), rng.choice(known)
                    self.assert_same(one.send(host, target), two.send(host, target))
                self.assertEqual(state(one), state(two))


class ModelTest(Checks, unittest.TestCase):

    def test_random_deeds_against_the_model(self):
        words = set()
        for seed in range(200):
            rng = random.Random(seed)
            world = resting(random_world(rng, gates=5, hosts=5), rng)
            net, model = MoveNet(world), RestModel(world, Ports())
            for _ in range(60):
                deed = rng.random()
                if deed < 0.1 and model.log:
                    count = rng.randint(1, min(4, len(model.log)))
                    net.undo(count)
                    model.undo(count)
                elif deed < 0.2:
                    units = rng.randint(1, 3)
                    model.wait(units)
                    self.assert_same(net.wait(units), model.now)
                elif deed < 0.24 and world.gates:
                    gate = rng.choice(world.gates)
                    net.fall(gate)
                    model.fall(gate)
                elif deed < 0.28:
                    net = net.twin()
                elif deed < 0.5:
                    host, realm = rng.choice(world.hosts), rng.choice(("",) + world.gates)
                    if (realm, world.address(host)) in model.map.stations:
                        self.assert_raises(Clash, {"number": world.address(host)}, net.move, host, realm)
                    else:
                        net.move(host, realm)
                        model.move_host(host, realm)
                else:
                    known = [(address, port) for address in range(1, 10) for port in (0, 1, 2)] + list(net.told) * 6
                    host, target = rng.choice(world.hosts), rng.choice(known)
                    self.assert_same(net.send(host, target), model.send(host, target))
                    words.add(net.log[-1][2][1] if net.log[-1][2][0] == "lost" else "heard")
                self.assert_same([net.entries(gate) for gate in world.gates], [model.rows(g) for g in world.gates])
                self.assert_same((net.now, net.log), (model.now, tuple(model.log)))
                self.assertEqual({name: net.world.realm(name) for name in world.hosts},
                                 {name: model.map.realms[name] for name in world.hosts})
        self.assertEqual(words, {"heard", "port", "nowhere", "unturned", "closed", "barred", "gone"})


if __name__ == "__main__":
    unittest.main()
