"""A network with ports ([4], [6], [7], [15])."""

import inspect
import random
import unittest

from meetbehind.errors import InvalidPort, InvalidTarget, NoStation, NothingToUndo
from meetbehind.kinds import Kind
from meetbehind.named import NamedNet
from meetbehind.nets import Net, tried
from meetbehind.ports import Ports
from meetbehind.worlds import World
from tests.model import PortModel, random_world
from tests.samples import any_values, Checks, DEEP, ONE, STRICT, SIX, values_but

LENDS_ONE = ONE.with_kind("a", Kind("one", "any"))
LENDS_FAR = ONE.with_kind("a", Kind("far", "any"))


class Odd(Exception):
    pass


def state(net):
    return (net.log, net.told, [net.entries(gate) for gate in net.world.gates],
            [list(net.seen(host)) for host in net.world.hosts])


class SendTest(Checks, unittest.TestCase):

    def test_the_example(self):
        net = Net(ONE, choose=Ports(30, 40))
        self.assert_same(net.send("x", (1, 1)), ("heard", "p", (5, 30)))
        self.assert_same(net.send("y", (5, 30)), ("heard", "x", (7, 30)))
        self.assert_same(net.send(host="x", target=(7, 30)), ("heard", "y", (5, 40)))
        self.assert_same(net.entries("a"), (((10, 1), (1, 1), 30, ((1, 1),)), ((10, 1), (7, 30), 40, ((7, 30),))))
        self.assert_same(net.entries(gate="b"), (((10, 1), (5, 30), 30, ((5, 30),)),))
        self.assert_same(net.told, ((5, 30), (5, 40), (7, 30)))
        self.assert_same(net.log, (("x", (1, 1), ("heard", "p", (5, 30))), ("y", (5, 30), ("heard", "x", (7, 30))),
                                   ("x", (7, 30), ("heard", "y", (5, 40)))))
        self.assertIs(net.world, ONE)

    def test_a_new_network(self):
        net = Net(ONE)
        self.assert_same((net.log, net.told, net.entries("a"), list(net.seen("x"))), ((), (), (), []))
        for name in ("world", "log", "told"):
            with self.assertRaises(AttributeError):
                setattr(net, name, ())

    def test_lost_packets(self):
        net = Net(ONE)
        self.assert_same(net.send("x", (10, 2)), ("lost", "port", "x"))
        self.assert_same(net.send("x", (10, 0)), ("lost", "port", "x"))
        self.assert_same(net.send("x", (1, 2)), ("lost", "port", "p"))
        self.assert_same(net.send("x", (99, 1)), ("lost", "nowhere", ""))
        self.assert_same(net.send("p", (10, 1)), ("lost", "nowhere", ""))
        self.assert_same(net.send("x", (5, 2)), ("lost", "unturned", "a"))
        self.assert_same(net.send("x", (7, 2)), ("lost", "closed", "b"))
        self.assert_same(net.send("p", (5, 0)), ("lost", "closed", "a"))
        self.assert_same(net.send("p", (5, 1)), ("lost", "closed", "a"))
        self.assert_same(net.send("p", (5, 10 ** 9)), ("lost", "closed", "a"))
        self.assert_same(net.send("y", (99, 1)), ("lost", "nowhere", ""))
        self.assert_same(net.send("p", (7, 2)), ("lost", "barred", "b"))
        self.assert_same([row[1] for row in net.entries("a")], [(1, 2), (99, 1), (7, 2)])

    def test_to_oneself(self):
        net = Net(ONE)
        self.assert_same(net.send("x", (10, 1)), ("heard", "x", (10, 1)))
        self.assert_same(net.entries("a"), ())

    def test_what_a_lost_packet_opened_stays(self):
        net = Net(ONE)
        net.send("y", (5, 0))
        self.assert_same(net.entries("b"), (((10, 1), (5, 0), 2, ((5, 0),)),))
        net.send("x", (1, 1))
        self.assert_same(net.send("x", (7, 2)), ("heard", "y", (5, 3)))

    def test_keys(self):
        for world, keys in ((LENDS_ONE, [None]), (LENDS_FAR, [1, 99]), (ONE, [(1, 1), (1, 2), (99, 1)])):
            net = Net(world)
            for target in ((1, 1), (1, 2), (99, 1), (1, 1)):
                net.send("x", target)
            rows = net.entries("a")
            self.assert_same([row[1] for row in rows], keys)
            self.assert_same(sorted(target for row in rows for target in row[3]), [(1, 1), (1, 2), (99, 1)])

    def test_sent_is_ascending(self):
        net = Net(LENDS_ONE)
        for target in ((99, 1), (1, 10), (1, 9), (99, 0), (1, 10)):
            net.send("x", target)
        self.assert_same(net.entries("a"), (((10, 1), None, 2, ((1, 9), (1, 10), (99, 0), (99, 1))),))

    def test_what_is_let_in(self):
        for lets, words in (("any", ["heard", "heard", "heard"]), ("far", ["heard", "heard", "barred"]),
                            ("both", ["heard", "barred", "barred"])):
            world = World(("gate", "a", "", 5, Kind("one", lets)), ("gate", "d", "", 1, Kind("one", "any")),
                          ("host", "x", "a", 10), ("host", "p", "d", 3), ("host", "r", "d", 4), ("host", "q", "", 2))
            net = Net(world)
            net.send("x", (1, 2))       # a lends 2; p will show the port 2 of d, r the port 3
            results = [net.send(host, (5, 2)) for host in "prq"]
            self.assertEqual([result[0] if result[0] == "heard" else result[1] for result in results], words)

    def test_far_asks_for_the_address_alone(self):
        world = World(("gate", "a", "", 5, Kind("one", "far")), ("gate", "d", "", 1, Kind("both", "any")),
                      ("host", "x", "a", 10), ("host", "p", "d", 3))
        for lets, word in (("far", "heard"), ("both", "lost")):
            net = Net(world.with_kind("a", Kind("one", lets)))
            net.send("x", (1, 77))      # d has no such port, but a is now open for its address
            self.assertEqual(net.send("p", (5, 2))[0], word)

    def test_turning(self):
        world = World(("gate", "a", "", 5, Kind("one", "any", turns=True)), ("host", "x", "a", 10), ("host", "z", "a", 11))
        net = Net(world)
        self.assert_same(net.send("x", (5, 2)), ("heard", "x", (5, 2)))
        self.assert_same(net.send("z", (5, 2)), ("heard", "x", (5, 3)))
        self.assert_same(net.send("z", (5, 9)), ("lost", "closed", "a"))
        self.assert_same(net.entries("a"), (((10, 1), None, 2, ((5, 2),)), ((11, 1), None, 3, ((5, 2), (5, 9)))))
        strict = Net(world.with_kind("a", Kind("one", "both", turns=True)))
        self.assert_same(strict.send("x", (5, 3)), ("lost", "closed", "a"))
        self.assert_same(strict.send("z", (5, 2)), ("heard", "x", (5, 3)))

    def test_unturned_changes_nothing_at_this_gate(self):
        net = Net(DEEP)
        self.assert_same(net.send("w", (6, 1)), ("lost", "unturned", "b"))
        self.assert_same([len(net.entries(gate)) for gate in "abc"], [0, 0, 1])
        self.assert_same(net.send("w", (7, 1)), ("lost", "unturned", "c"))
        self.assert_same([len(net.entries(gate)) for gate in "abc"], [0, 0, 1])

    def test_three_gates_out_and_in(self):
        net = Net(DEEP, choose=Ports(20))
        self.assert_same(net.send("t", (5, 20)), ("lost", "closed", "a"))
        self.assert_same(net.send("w", (99, 1)), ("lost", "nowhere", ""))
        self.assert_same([net.entries(gate) for gate in "abc"], [
            (((6, 20), None, 20, ((99, 1),)),), (((7, 20), 99, 20, ((99, 1),)),), (((10, 1), (99, 1), 20, ((99, 1),)),)])
        self.assert_same(net.send("t", (5, 20)), ("lost", "barred", "b"))
        open_world = DEEP.with_kind("b", Kind("one", "any")).with_kind("c", Kind("one", "any"))
        net = Net(open_world, choose=Ports(20))
        net.send("w", (99, 1))
        self.assert_same(net.send("t", (5, 20)), ("heard", "w", (10, 1)))
        self.assert_same(net.send("u", (6, 20)), ("heard", "w", (7, 1)))

    def test_equal_addresses_in_unlike_realms(self):
        net = Net(SIX)
        self.assert_same(net.send("h", (99, 1)), ("heard", "h", (99, 1)))
        self.assert_same(net.send("m", (99, 1)), ("heard", "l", (4, 2)))
        self.assert_same(net.send("j", (97, 1)), ("heard", "o", (1, 2)))
        self.assert_same([net.entries(gate)[0][0] for gate in "abc"], [(1, 2), (1, 2), (99, 1)])

    def test_wrong_hosts_and_targets(self):
        net = Net(ONE)
        net.send("x", (1, 1))
        before = state(net)
        for value in values_but(["x", "y", "p"]):
            self.assert_raises(NoStation, {"name": value}, net.send, value, (1, 1))
            self.assert_raises(NoStation, {"name": value}, net.send, value, None)
            self.assert_raises(NoStation, {"name": value}, lambda one: next(net.seen(one)), value)
        for value in values_but([(1, 1)]) + [
                (1, 2, 3), [1, 1], (1, True), (True, 1), (0, 1), (100, 1), (1, -1), (1, 10 ** 9 + 1), (1, None), ("1", 1),
                ((1, 1), 1), (1, 10 ** 59)]:
            self.assert_raises(InvalidTarget, {"target": value}, net.send, "x", value)
        for value in values_but(["a", "b"]):
            self.assert_raises(NoStation, {"name": value}, net.entries, value)
        self.assertEqual(state(net), before)

    def test_bounds_of_targets(self):
        net = Net(ONE)
        for target in ((1, 0), (99, 0), (1, 10 ** 9), (99, 10 ** 9)):
            self.assertEqual(net.send("x", target)[0], "lost")

    def test_seen(self):
        net = Net(ONE)
        self.assertTrue(inspect.isgenerator(net.seen("p")))
        for host in ("x", "y", "x", "p"):
            net.send(host, (1, 1))
        self.assert_same(list(net.seen("p")), [("x", (5, 2)), ("y", (7, 2)), ("x", (5, 2)), ("p", (1, 1))])
        self.assert_same(list(net.seen(host="x")), [])

    def test_hosts_called_like_the_words_of_lost_packets(self):
        world = World(("host", "port", "", 1), ("host", "nowhere", "", 2), ("host", "heard", "", 3))
        net = Net(world)
        self.assert_same(net.send("heard", (1, 2)), ("lost", "port", "port"))
        self.assert_same(net.send("heard", (9, 1)), ("lost", "nowhere", ""))
        self.assert_same([list(net.seen(host)) for host in ("port", "nowhere", "heard")], [[], [], []])
        self.assertEqual(net.told, ())
        self.assert_same(net.send("port", (3, 1)), ("heard", "heard", (1, 1)))
        self.assert_same(list(net.seen("heard")), [("port", (1, 1))])


class ChooseTest(Checks, unittest.TestCase):

    def asked(self, answers):
        """A choose that answers by a list and keeps what it was asked."""
        calls = []

        def choose(*given):
            calls.append(given)
            answer = answers[len(calls) - 1]
            if isinstance(answer, Odd):
                raise answer
            return answer
        return choose, calls

    def test_what_choose_is_asked(self):
        choose, calls = self.asked([9, 7, 8, 2])
        net = Net(ONE, choose=choose)
        for target in ((1, 1), (1, 1), (2, 1), (3, 1)):
            net.send("x", target)
        net.send("y", (1, 1))
        self.assert_same(calls, [("a", ()), ("a", (9,)), ("a", (7, 9)), ("b", ())])

    def test_wrong_ports(self):
        for value in values_but([2, 5, 10, 99, 100]) + [10 ** 9 + 1, 1, 0, "2", (2,)]:
            choose, _ = self.asked([4, value, 4])
            net = Net(ONE, choose=choose)
            net.send("x", (1, 1))
            before = state(net)
            self.assert_raises(InvalidPort, {"port": value}, net.send, "x", (2, 1))
            self.assertEqual(state(net), before)
            self.assert_raises(InvalidPort, {"port": 4}, net.send, "x", (2, 1))
            self.assertEqual(state(net), before)
        choose, _ = self.asked([10 ** 9, 2])
        self.assertEqual(Net(ONE, choose=choose).send("x", (1, 1)), ("heard", "p", (5, 10 ** 9)))

    def test_unlike_gates_may_choose_the_same_port(self):
        net = Net(ONE, choose=lambda gate, used: 77)
        self.assertEqual([net.send(host, (1, 1)) for host in "xy"], [("heard", "p", (5, 77)), ("heard", "p", (7, 77))])
        self.assert_raises(InvalidPort, {"port": 77}, net.send, "x", (2, 1))

    def test_a_wrong_port_at_each_gate_of_the_way(self):
        for at in range(3):
            for wrong in (1, Odd("no")):
                answers = [31, 32, 33]
                answers[at] = wrong
                choose, calls = self.asked(answers[:at + 1] + [51, 52, 53])
                net = Net(DEEP, choose=choose)
                before = state(net)
                if wrong == 1:
                    self.assert_raises(InvalidPort, {"port": 1}, net.send, "w", (99, 1))
                else:
                    with self.assertRaises(Odd):
                        net.send("w", (99, 1))
                self.assertEqual(state(net), before)
                self.assert_raises(NothingToUndo, {"count": 1}, net.undo)
                del calls[:]
                calls += [None] * (at + 1)
                net.send("w", (99, 1))
                # the ports that were chosen before count as never used
                self.assert_same(calls[at + 1:], [("c", ()), ("b", ()), ("a", ())])

    def test_errors_come_before_choose(self):
        choose, calls = self.asked([])
        net = Net(ONE, choose=choose)
        self.assert_raises(NoStation, {"name": "q"}, net.send, "q", (1, 1))
        self.assert_raises(InvalidTarget, {"target": 1}, net.send, "x", 1)
        self.assert_raises(InvalidTarget, {"target": 1}, Net(ONE, choose=lambda gate, used: None).send, "x", 1)
        self.assertEqual(calls, [])

    def test_existing_entries_ask_for_nothing(self):
        choose, calls = self.asked([5])
        net = Net(LENDS_ONE, choose=choose)
        for port in range(5):
            net.send("x", (1, port))
        self.assertEqual(len(calls), 1)


class UndoTest(Checks, unittest.TestCase):

    def test_one_and_several(self):
        net = Net(LENDS_ONE)
        states = [state(net)]
        for host, target in (("x", (1, 1)), ("x", (1, 2)), ("y", (5, 2)), ("x", (1, 1)), ("p", (5, 2)), ("x", (7, 2))):
            net.send(host, target)
            states.append(state(net))
        self.assertIsNone(net.undo())
        self.assertEqual(state(net), states[5])
        self.assertIsNone(net.undo(count=2))
        self.assertEqual(state(net), states[3])
        net.undo(3)
        self.assertEqual(state(net), states[0])
        self.assert_raises(NothingToUndo, {"count": 1}, net.undo)

    def test_a_target_that_was_sent_to_before_stays(self):
        net = Net(LENDS_ONE)
        net.send("x", (1, 1))
        net.send("x", (1, 1))
        net.undo()
        self.assert_same(net.entries("a"), (((10, 1), None, 2, ((1, 1),)),))

    def test_ports_stay_used(self):
        net = Net(ONE)
        net.send("x", (1, 1))
        net.undo()
        self.assertEqual(net.entries("a"), ())
        self.assertEqual(net.send("x", (1, 1)), ("heard", "p", (5, 3)))
        self.assertEqual(net.send("p", (5, 2)), ("lost", "closed", "a"))

    def test_wrong_counts(self):
        net = Net(ONE)
        net.send("x", (1, 1))
        net.send("x", (1, 1))
        before = state(net)
        for value in values_but([1, 2]) + [3, 0, True, -1]:
            self.assert_raises(NothingToUndo, {"count": value}, net.undo, value)
        self.assertEqual(state(net), before)

    def test_random_packets_against_the_model(self):
        for seed in range(150):
            rng = random.Random(seed)
            world = random_world(rng, gates=6, hosts=5)
            net = Net(world)
            model = PortModel(world, Ports())
            for _ in range(40):
                if model.log and rng.random() < 0.15:
                    count = rng.randint(1, min(3, len(model.log)))
                    net.undo(count)
                    model.undo(count)
                known = [(address, port) for address in range(1, 10) for port in (0, 1, 2, 3)] + list(net.told) * 4
                host, target = rng.choice(world.hosts), rng.choice(known)
                self.assert_same(net.send(host, target), model.send(host, target))
                self.assert_same([net.entries(gate) for gate in world.gates], [model.rows(g) for g in world.gates])
            self.assert_same(net.log, tuple(model.log))


class TwinTest(Checks, unittest.TestCase):

    def test_twins_are_equal_and_independent(self):
        net = Net(ONE, choose=Ports(9))
        net.send("x", (1, 1))
        twin = net.twin()
        self.assertIs(twin == net, True)
        self.assertIs(twin.__class__, Net)
        before = state(net)
        twin.send("x", (1, 2))
        twin.send("x", (1, 1))
        self.assertEqual(state(net), before)
        self.assertIs(twin == net, False)
        twin.undo(2)
        self.assertIs(twin == net, True)
        twin.undo()
        self.assertEqual(state(net), before)
        net.send("y", (1, 1))
        self.assertEqual(state(twin), state(Net(ONE)))

    def test_the_same_choose_and_the_same_used_ports(self):
        net = Net(ONE, choose=Ports(9, 11))
        net.send("x", (1, 1))
        net.undo()
        twin = net.twin()
        self.assertEqual(twin.send("x", (1, 1)), ("heard", "p", (5, 11)))
        self.assertEqual(net.send("x", (1, 1)), ("heard", "p", (5, 11)))

    def test_equal(self):
        one, two = Net(ONE), Net(ONE, choose=Ports(2))
        self.assertIs(one == two, True)
        one.send("x", (1, 1))
        self.assertIs(one == two, False)
        self.assertIs(one != two, True)
        two.send("x", (1, 1))
        self.assertIs(one == two, True)
        two.send("x", (1, 1))
        two.undo()
        self.assertIs(one == two, True)
        self.assertIs(Net(ONE) == Net(World(*ONE.parts[1::-1], *ONE.parts[:1:-1])), True)
        self.assertIs(Net(ONE) == Net(STRICT), False)
        self.assertIs(Net(ONE) == NamedNet(ONE), False)
        self.assertIs(NamedNet(ONE) == Net(ONE), False)
        for value in any_values():
            if not isinstance(value, Net):
                self.assertIs(Net(ONE) == value, False)

    def test_used_ports_do_not_matter_for_equal(self):
        one = Net(LENDS_ONE)
        one.send("x", (99, 1))
        one.undo()
        self.assertIs(one == Net(LENDS_ONE), True)

    def test_unlike_logs_with_the_same_entries_are_not_equal(self):
        one, two = Net(ONE), Net(ONE)
        one.send("x", (10, 1))
        self.assertIs(one == two, False)
        two.send("y", (10, 1))
        self.assertIs(one == two, False)
        two.undo()
        two.send("x", (10, 1))
        self.assertIs(one == two, True)

    def test_logs_with_unlike_entries_are_not_equal(self):
        one, two = Net(LENDS_ONE), Net(LENDS_ONE, choose=Ports(50))
        one.send("x", (99, 1))
        two.send("x", (99, 1))
        self.assertEqual(one.log, two.log)
        self.assertIs(one == two, False)


class TrialTest(Checks, unittest.TestCase):

    def test_behind_the_block(self):
        net = Net(ONE)
        net.send("x", (1, 1))
        before = state(net)
        with net.trial() as held:
            self.assertIs(held, net)
            held.undo()
            held.send("y", (1, 1))
            held.send("x", (2, 1))
            self.assertNotEqual(state(net), before)
        self.assertEqual(state(net), before)
        self.assertEqual(net.send("x", (2, 1)), ("lost", "nowhere", ""))
        self.assertEqual([row[2] for row in net.entries("a")], [2, 3])

    def test_ports_are_given_back(self):
        net = Net(ONE)
        with net.trial():
            net.send("x", (1, 1))
        self.assertEqual(net.send("x", (1, 1)), ("heard", "p", (5, 2)))
        net.undo()
        with net.trial():
            net.send("x", (1, 1))
        self.assertEqual(net.send("x", (1, 1)), ("heard", "p", (5, 3)))

    def test_errors_go_on(self):
        net = Net(ONE)
        net.send("x", (1, 1))
        before = state(net)
        with self.assertRaises(Odd):
            with net.trial() as held:
                held.send("x", (2, 1))
                raise Odd()
        self.assertEqual(state(net), before)
        with self.assertRaises(NoStation):
            with net.trial():
                net.send("y", (1, 1))
                net.send("q", (1, 1))
        self.assertEqual(state(net), before)

    def test_trials_within_trials(self):
        net = Net(ONE)
        states = []
        with net.trial():
            net.send("x", (1, 1))
            states.append(state(net))
            with net.trial():
                net.undo()
                net.send("y", (1, 1))
            self.assertEqual(state(net), states[0])
            with self.assertRaises(Odd):
                with net.trial():
                    net.send("p", (1, 1))
                    raise Odd()
            self.assertEqual(state(net), states[0])
        self.assertEqual(state(net), state(Net(ONE)))

    def test_one_trial_used_again(self):
        net = Net(ONE)
        trial = net.trial()
        net.send("x", (1, 1))
        before = state(net)
        with trial:
            net.send("x", (2, 1))
            inner = state(net)
            with trial as held:
                self.assertIs(held, net)
                net.send("x", (3, 1))
            self.assertEqual(state(net), inner)
        self.assertEqual(state(net), before)
        net.send("y", (1, 1))
        before = state(net)
        with trial:
            net.undo(2)
        self.assertEqual(state(net), before)

    def test_a_twin_from_within_a_trial_stays(self):
        net = Net(ONE)
        with net.trial() as held:
            held.send("x", (1, 1))
            twin = held.twin()
        self.assertEqual(len(twin.log), 1)
        self.assertEqual(len(net.log), 0)

    def test_tried(self):
        net = Net(ONE)
        self.assertEqual(tried(net, lambda one: one.send("x", (1, 1))), ("heard", "p", (5, 2)))
        self.assertEqual(tried(net=net, deed=lambda *one: one), (net,))
        self.assertIsNone(tried(net, lambda one: None))
        self.assertEqual(state(net), state(Net(ONE)))

        def deed(one):
            one.send("x", (1, 1))
            raise Odd()
        with self.assertRaises(Odd):
            tried(net, deed)
        self.assertEqual(state(net), state(Net(ONE)))
        self.assertEqual(net.send("x", (1, 1)), ("heard", "p", (5, 2)))


class SmallWorldsTest(Checks, unittest.TestCase):

    def test_no_gates_and_no_hosts(self):
        net = Net(World(("host", "x", "", 1), ("host", "y", "", 99)))
        self.assert_same(net.send("x", (99, 1)), ("heard", "y", (1, 1)))
        self.assert_same(net.send("x", (2, 1)), ("lost", "nowhere", ""))
        self.assert_raises(NoStation, {"name": "a"}, net.entries, "a")
        empty = Net(World())
        self.assert_raises(NoStation, {"name": "x"}, empty.send, "x", (1, 1))
        self.assertEqual((empty.log, empty.told), ((), ()))


if __name__ == "__main__":
    unittest.main()
