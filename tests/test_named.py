"""A network that knows names ([16])."""

import random
import unittest

from meetbehind.errors import InvalidName, InvalidPort, NoStation, NotSeen, NothingToUndo
from meetbehind.kinds import Kind
from meetbehind.named import NamedNet
from meetbehind.names import show_name, sources
from meetbehind.nets import Net, tried
from meetbehind.ports import Ports
from meetbehind.worlds import World
from tests.model import random_world
from tests.samples import A1, A7, B1, B5, Checks, DEEP, ONE, values_but


class Odd(Exception):
    pass


def state(net):
    return (net.log, net.told, [net.entries(gate) for gate in net.world.gates], net.known_names,
            [net.endpoint(name) for name in net.known_names])


class SendToTest(Checks, unittest.TestCase):

    def test_own_and_blind_names(self):
        net = NamedNet(ONE, choose=Ports(30))
        self.assert_same(net.send_to("x", ("own", 1)), ("heard", "p", A1))
        self.assert_same(net.send_to(host="x", name=("blind", 7)), ("lost", "closed", "b"))
        self.assert_same(net.log, (("x", (1, 1), ("heard", "p", (5, 30))), ("x", (7, 0), ("lost", "closed", "b"))))
        self.assert_same(net.told, ((5, 30),))

    def test_names_that_were_seen(self):
        net = NamedNet(ONE)
        self.assertEqual(net.known_names, ())
        self.assert_raises(NotSeen, {"name": A1}, net.send_to, "y", A1)
        net.send_to("x", ("own", 1))
        self.assert_same(net.known_names, (A1,))
        self.assert_same(net.endpoint(A1), (5, 2))
        self.assert_same(net.send_to("y", A1), ("heard", "x", B5))
        self.assert_same(net.send_to("x", B5), ("heard", "y", A7))
        self.assert_same(net.known_names, (A1, A7, B5))
        self.assert_same(net.log[1:], (("y", (5, 2), ("heard", "x", (7, 2))), ("x", (7, 2), ("heard", "y", (5, 3)))))
        with self.assertRaises(AttributeError):
            net.known_names = ()

    def test_a_packet_to_oneself_shows_an_own_name(self):
        net = NamedNet(ONE)
        self.assert_same(net.send_to("x", ("own", 10)), ("heard", "x", ("own", 10)))
        self.assert_same(net.known_names, ())

    def test_endpoints(self):
        net = NamedNet(ONE)
        self.assert_same(net.endpoint(("own", 10)), (10, 1))
        self.assert_same(net.endpoint(name=("blind", 7)), (7, 0))
        self.assert_raises(NotSeen, {"name": A1}, net.endpoint, A1)
        self.assert_raises(NotSeen, {"name": B5}, net.endpoint, B5)

    def test_the_endpoint_that_was_seen_first(self):
        # b lends by "both": the name b(10|5?) stands for an endpoint for each port of a that y sent to
        net = NamedNet(ONE)
        net.send("x", (1, 1))
        net.send("x", (2, 1))
        net.send("y", (5, 3))
        net.send_to("x", ("own", 1))
        self.assert_same(net.send_to("y", A1), ("heard", "x", B5))
        self.assert_same(net.endpoint(B5), (7, 3))
        net.undo()
        self.assert_raises(NotSeen, {"name": B5}, net.endpoint, B5)

    def test_a_later_endpoint_of_the_same_name_does_not_count(self):
        world = World(("gate", "a", "", 5, Kind("both", "any")), ("gate", "d", "", 6, Kind("both", "any")),
                      ("host", "x", "a", 10), ("host", "y", "d", 10), ("host", "z", "d", 11), ("host", "p", "", 1))
        net = NamedNet(world)
        y1, z1 = ("lent", "d", ("own", 10), ("own", 1)), ("lent", "d", ("own", 11), ("own", 1))
        shown = ("lent", "a", ("own", 10), 6)
        net.send_to("y", ("own", 1))
        net.send_to("z", ("own", 1))
        self.assert_same(net.send_to("x", y1), ("heard", "y", shown))
        first = net.endpoint(shown)
        self.assert_same(net.send_to("x", z1), ("heard", "z", shown))
        self.assertNotEqual(net.log[-1][2], net.log[-2][2])
        self.assert_same(net.endpoint(shown), first)
        net.undo()
        self.assert_same(net.endpoint(shown), first)
        net.undo()
        self.assert_raises(NotSeen, {"name": shown}, net.endpoint, shown)
        net.send_to("x", z1)
        self.assertNotEqual(net.endpoint(shown), first)

    def test_packets_of_send_make_nothing_known(self):
        net = NamedNet(ONE)
        self.assert_same(net.send("x", (1, 1)), ("heard", "p", (5, 2)))
        self.assertEqual(net.known_names, ())
        self.assert_raises(NotSeen, {"name": A1}, net.send_to, "y", A1)
        net.send_to("x", ("own", 1))
        self.assert_same(net.endpoint(A1), (5, 2))
        net.undo(2)
        self.assertEqual(net.known_names, ())

    def test_lost_packets_make_nothing_known(self):
        net = NamedNet(ONE)
        self.assert_same(net.send_to("x", ("blind", 5)), ("lost", "unturned", "a"))
        self.assert_same(net.send_to("p", ("own", 10)), ("lost", "nowhere", ""))
        self.assert_same(net.send_to("y", ("blind", 5)), ("lost", "closed", "a"))
        self.assertEqual(net.known_names, ())

    def test_names_through_three_gates(self):
        net = NamedNet(DEEP)
        name = ("lent", "a", ("lent", "b", ("lent", "c", ("own", 10), ("own", 1)), 1), None)
        self.assertEqual(net.send_to("v", ("own", 10)), ("heard", "t", ("lent", "a", ("lent", "b", ("own", 5), 10), None)))
        world = DEEP.with_part(("host", "s", "", 1))
        net = NamedNet(world)
        self.assert_same(net.send_to("w", ("own", 1)), ("heard", "s", name))
        self.assert_same(net.send_to("t", name), ("lost", "barred", "b"))
        self.assert_same(net.send_to("s", name), ("heard", "w", ("own", 1)))

    def test_known_names_are_sorted_by_text(self):
        world = World(("gate", "b", "", 5, Kind("one", "any")), ("gate", "a", "", 6, Kind("one", "any")),
                      ("host", "x", "b", 9), ("host", "y", "b", 10), ("host", "z", "a", 7), ("host", "p", "", 1))
        net = NamedNet(world)
        for host in "xyz":
            net.send_to(host, ("own", 1))
        self.assertEqual([show_name(name) for name in net.known_names], ["a(7)", "b(10)", "b(9)"])

    def test_the_name_of_a_source_is_the_last_one_of_sources(self):
        for seed in range(80):
            rng = random.Random(seed)
            world = random_world(rng, gates=5, hosts=4)
            net = NamedNet(world)
            own = [("own", world.address(host)) for host in world.hosts]
            blind = [("blind", world.address(gate)) for gate in world.gates]
            first = {}
            for _ in range(30):
                host, name = rng.choice(world.hosts), rng.choice(own + blind + list(net.known_names) * 2)
                result = net.send_to(host, name)
                if result[0] == "heard":
                    self.assert_same(result[2], sources(world, host, name)[-1])
                    self.assert_same(result[:2], net.log[-1][2][:2])
                    if result[2][0] == "lent":
                        first.setdefault(result[2], net.log[-1][2][2])
                else:
                    self.assert_same(result, net.log[-1][2])
                self.assertEqual({known: net.endpoint(known) for known in net.known_names}, first)


class ErrorsTest(Checks, unittest.TestCase):

    def test_wrong_arguments(self):
        net = NamedNet(ONE)
        net.send_to("x", ("own", 1))
        before = state(net)
        for value in values_but(["x", "y", "p"]):
            self.assert_raises(NoStation, {"name": value}, net.send_to, value, ("own", 1))
            self.assert_raises(NoStation, {"name": value}, net.send_to, value, None)
        for value in values_but([("own", 10), ("own", 1), ("blind", 5), ("blind", 7), A1, B5]):
            self.assert_raises(InvalidName, {"name": value}, net.send_to, "x", value)
            self.assert_raises(InvalidName, {"name": value}, net.endpoint, value)
        self.assert_raises(NotSeen, {"name": B5}, net.send_to, "x", B5)
        self.assert_raises(NoStation, {"name": "q"}, net.send_to, "q", B5)
        self.assertEqual(state(net), before)

    def test_wrong_ports_at_each_gate(self):
        world = DEEP.with_part(("host", "s", "", 1))
        for wrong_at in "cba":
            for wrong in (True, Odd()):
                asked = []

                def choose(gate, used):
                    asked.append((gate, used))
                    if gate == wrong_at and isinstance(wrong, Odd):
                        raise wrong
                    return wrong if gate == wrong_at else 31
                net = NamedNet(world, choose=choose)
                before = state(net)
                for _ in range(2):
                    with self.assertRaises(InvalidPort if wrong is True else Odd):
                        net.send_to("w", ("own", 1))
                    self.assertEqual(state(net), before)
                # a port that was chosen for a gate before counts as never used
                gates = "cba"[:"cba".index(wrong_at) + 1]
                self.assertEqual(asked, [(gate, ()) for gate in gates] * 2)

    def test_a_wrong_port_makes_nothing_known(self):
        answers = [None, 9]
        net = NamedNet(ONE, choose=lambda gate, used: answers.pop(0))
        self.assert_raises(InvalidPort, {"port": None}, net.send_to, "x", ("own", 1))
        self.assertEqual((net.known_names, net.log), ((), ()))
        self.assertEqual(net.send_to("x", ("own", 1)), ("heard", "p", A1))
        self.assertEqual(net.endpoint(A1), (5, 9))


class NetTest(Checks, unittest.TestCase):
    """What holds for Net holds for NamedNet."""

    def test_it_is_a_net(self):
        net = NamedNet(ONE, choose=Ports(30, 40))
        self.assertIsInstance(net, Net)
        self.assertIs(net.world, ONE)
        self.assert_same(net.send(host="x", target=(1, 1)), ("heard", "p", (5, 30)))
        self.assert_same(net.entries("a"), (((10, 1), (1, 1), 30, ((1, 1),)),))
        self.assert_same(list(net.seen("p")), [("x", (5, 30))])
        self.assert_raises(NothingToUndo, {"count": 2}, net.undo, 2)
        self.assert_raises(NothingToUndo, {"count": True}, net.undo, True)

    def test_undo_counts_packets_of_both_methods(self):
        net = NamedNet(ONE)
        net.send_to("x", ("own", 1))
        net.send("y", (1, 1))
        net.send_to("y", ("own", 1))
        self.assertEqual(net.known_names, (A1, B1))
        self.assertIsNone(net.undo())
        self.assertEqual(net.known_names, (A1,))
        self.assertIsNone(net.undo(count=2))
        self.assertEqual((net.known_names, net.log, net.told), ((), (), ()))
        self.assertEqual(net.send_to("x", ("own", 1)), ("heard", "p", A1))
        self.assertEqual(net.endpoint(A1), (5, 3))

    def test_undo_of_a_second_sight(self):
        net = NamedNet(ONE)
        net.send_to("x", ("own", 1))
        net.send_to("x", ("own", 1))
        net.undo()
        self.assertEqual(net.known_names, (A1,))
        net.undo()
        self.assertEqual(net.known_names, ())

    def test_twins(self):
        net = NamedNet(ONE)
        net.send_to("x", ("own", 1))
        twin = net.twin()
        self.assertIs(twin.__class__, NamedNet)
        self.assertIs(twin == net, True)
        self.assertEqual(state(twin), state(net))
        twin.send_to("y", A1)
        self.assertEqual((net.known_names, twin.known_names), ((A1,), (A1, B5)))
        net.undo()
        self.assertEqual((net.known_names, twin.known_names), ((), (A1, B5)))

    def test_trials(self):
        net = NamedNet(ONE)
        net.send_to("x", ("own", 1))
        before = state(net)
        with net.trial() as held:
            self.assertIs(held, net)
            held.send_to("y", A1)
            self.assertEqual(held.known_names, (A1, B5))
            with self.assertRaises(Odd):
                with held.trial():
                    held.undo(2)
                    self.assertEqual(held.known_names, ())
                    raise Odd()
            self.assertEqual(held.known_names, (A1, B5))
        self.assertEqual(state(net), before)
        self.assertEqual(tried(net, lambda one: one.send_to("y", A1)), ("heard", "x", B5))
        self.assertEqual(state(net), before)
        self.assertEqual(net.send_to("y", A1), ("heard", "x", B5))
        self.assertEqual(net.endpoint(B5), (7, 2))

    def test_equal(self):
        one, two = NamedNet(ONE), NamedNet(ONE)
        one.send_to("x", ("own", 1))
        self.assertIs(one == two, False)
        # known names are no part of this, as the log has endpoints
        two.send("x", (1, 1))
        self.assertIs(one == two, True)
        for value in values_but([]):
            self.assertIs(one == value, False)


if __name__ == "__main__":
    unittest.main()
