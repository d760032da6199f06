"""A network with time ([24], with [5], [6], [7] and [15])."""

import random
import unittest

from meetbehind.errors import InvalidPort, InvalidTarget, InvalidTime, NoStation, NothingToUndo
from meetbehind.kinds import Kind
from meetbehind.named import NamedNet
from meetbehind.nets import Net, tried
from meetbehind.ports import Ports
from meetbehind.restnets import RestNet
from meetbehind.worlds import World
from tests.model import PortModel, random_world, RestModel
from tests.samples import any_values, Checks, DEEP, ONE, SIX, STRICT, values_but

# a rests 10, b does not rest
REST = ONE.with_kind("a", Kind("one", "any", rests=10))
BOTH = REST.with_kind("b", Kind("one", "any", rests=4))


class Odd(Exception):
    pass


def state(net):
    return (net.now, net.log, net.told, [net.entries(gate) for gate in net.world.gates],
            [list(net.seen(host)) for host in net.world.hosts])


def resting(world, rng):
    """The world with rests for some gates."""
    for gate in world.gates:
        kind = world.kind(gate)
        rests = rng.choice((None, 2, 3, 5, 8))
        world = world.with_kind(gate, Kind(kind.lends, kind.lets, turns=kind.turns, rests=rests))
    return world


class TimeTest(Checks, unittest.TestCase):

    def test_a_new_network(self):
        net = RestNet(REST)
        self.assert_same((net.now, net.log, net.told, net.entries("a"), net.entries("b")), (0, (), (), (), ()))
        self.assertIs(net.world, REST)
        self.assertIsInstance(net, Net)
        for name in ("now", "world", "log", "told"):
            with self.assertRaises(AttributeError):
                setattr(net, name, 1)

    def test_wait(self):
        net = RestNet(REST)
        self.assert_same(net.wait(1), 1)
        self.assert_same(net.wait(units=10 ** 9), 10 ** 9 + 1)
        self.assert_same(net.wait(1), 10 ** 9 + 2)
        self.assert_same(net.now, 10 ** 9 + 2)

    def test_wrong_times(self):
        net = RestNet(REST)
        net.send("x", (1, 1))
        net.wait(3)
        before = state(net)
        for value in values_but([1, 2, 5, 10, 99, 100]) + [0, -1, True, 10 ** 9 + 1, "1", (1,), [1]]:
            self.assert_raises(InvalidTime, {"time": value}, net.wait, value)
        self.assertEqual(state(net), before)

    def test_an_entry_ends_at_its_time_exactly(self):
        for units, rows in ((9, 1), (10, 0), (11, 0), (10 ** 9, 0)):
            net = RestNet(REST)
            net.send("x", (1, 1))
            net.wait(units)
            self.assertEqual(len(net.entries("a")), rows)
            # what a packet needs and what one uses are asked alike
            self.assert_same(net.send("p", (5, 2)), ("heard", "x", (1, 1)) if rows else ("lost", "closed", "a"))
            self.assert_same(net.send("x", (1, 1)), ("heard", "p", (5, 2 if rows else 3)))

    def test_it_ends_after_many_short_waits(self):
        net = RestNet(REST)
        net.send("x", (1, 1))
        for passed in range(1, 13):
            net.wait(1)
            self.assertEqual(len(net.entries("a")), int(passed < 10))

    def test_the_least_rest(self):
        net = RestNet(REST.with_kind("a", Kind("one", "any", rests=2)))
        net.send("x", (1, 1))
        net.wait(1)
        self.assertEqual(len(net.entries("a")), 1)
        net.wait(1)
        self.assertEqual(len(net.entries("a")), 0)

    def test_going_out_keeps_an_entry(self):
        net = RestNet(REST)
        net.send("x", (1, 1))
        for target in ((1, 1), (2, 1), (1, 1), (99, 0)):
            net.wait(9)
            net.send("x", target)
        self.assert_same(net.now, 36)
        self.assert_same(net.entries("a"), (((10, 1), None, 2, ((1, 1), (2, 1), (99, 0))),))
        net.wait(10)
        self.assert_same(net.entries("a"), ())

    def test_coming_in_keeps_nothing(self):
        net = RestNet(REST)
        net.send("x", (1, 1))
        net.wait(9)
        self.assert_same(net.send("p", (5, 2)), ("heard", "x", (1, 1)))
        net.wait(1)
        self.assert_same(net.send("p", (5, 2)), ("lost", "closed", "a"))

    def test_a_lost_packet_keeps_the_entries_by_which_it_went_out(self):
        net = RestNet(REST)
        net.send("x", (1, 1))
        net.wait(9)
        self.assert_same(net.send("x", (99, 1)), ("lost", "nowhere", ""))
        net.wait(9)
        self.assertEqual(len(net.entries("a")), 1)

    def test_a_packet_that_does_not_turn_keeps_nothing(self):
        net = RestNet(REST)
        net.send("x", (1, 1))
        net.wait(9)
        self.assert_same(net.send("x", (5, 2)), ("lost", "unturned", "a"))
        net.wait(1)
        self.assert_same(net.entries("a"), ())

    def test_a_packet_that_turns_keeps_the_entry(self):
        net = RestNet(REST.with_kind("a", Kind("one", "any", turns=True, rests=10)))
        net.send("x", (1, 1))
        net.wait(9)
        self.assert_same(net.send("x", (5, 2)), ("heard", "x", (5, 2)))
        net.wait(9)
        self.assertEqual(len(net.entries("a")), 1)
        net.wait(1)
        # it goes out first, and comes in by the new entry
        self.assert_same(net.send("x", (5, 3)), ("heard", "x", (5, 3)))

    def test_a_new_entry_was_sent_to_nothing_before(self):
        net = RestNet(REST.with_kind("a", Kind("one", "both", rests=10)))
        net.send("x", (1, 1))
        net.send("x", (2, 1))
        net.wait(10)
        net.send("x", (3, 1))
        self.assert_same(net.entries("a"), (((10, 1), None, 3, ((3, 1),)),))
        self.assert_same(net.send("p", (5, 3)), ("lost", "barred", "a"))
        self.assert_same(net.send("p", (5, 2)), ("lost", "closed", "a"))

    def test_each_entry_has_its_own_time(self):
        net = RestNet(ONE.with_kind("a", Kind("both", "any", rests=10)))
        net.send("x", (1, 1))
        net.wait(4)
        net.send("x", (2, 1))
        net.wait(6)
        self.assert_same(net.entries("a"), (((10, 1), (2, 1), 3, ((2, 1),)),))
        net.send("x", (1, 1))
        self.assert_same([row[2] for row in net.entries("a")], [3, 4])
        net.wait(4)
        self.assert_same([row[2] for row in net.entries("a")], [4])

    def test_gates_that_do_not_rest_beside_such_that_rest(self):
        net = RestNet(REST)
        net.send("x", (1, 1))
        net.send("y", (1, 1))
        net.wait(10 ** 9)
        self.assert_same(net.entries("a"), ())
        self.assert_same(net.entries("b"), (((10, 1), (1, 1), 2, ((1, 1),)),))
        net = RestNet(BOTH)
        net.send("x", (1, 1))
        net.send("y", (1, 1))
        net.wait(4)
        self.assert_same([len(net.entries(gate)) for gate in "ab"], [1, 0])

    def test_an_inner_gate_that_forgets_shows_a_new_port_to_the_outer_one(self):
        world = DEEP.with_kind("c", Kind("both", "both", rests=5))
        net = RestNet(world)
        net.send("w", (99, 1))
        net.wait(5)
        net.send("w", (99, 1))
        self.assert_same(net.entries("c"), (((10, 1), (99, 1), 3, ((99, 1),)),))
        self.assert_same([row[0] for row in net.entries("b")], [(7, 2), (7, 3)])
        # the entry of c behind the first one of b is gone
        self.assert_same(net.send("u", (6, 2)), ("lost", "barred", "b"))
        net = RestNet(world.with_kind("b", Kind("far", "any")))
        net.send("w", (99, 1))
        net.wait(5)
        self.assert_same(net.send("u", (6, 2)), ("lost", "closed", "c"))

    def test_ports_are_not_used_again(self):
        asked = []

        def choose(gate, used):
            asked.append((gate, used))
            return 7 + len(asked)
        net = RestNet(REST, choose=choose)
        for _ in range(3):
            net.send("x", (1, 1))
            net.wait(10)
        net.send("x", (1, 1))
        net.fall("a")
        net.send("x", (1, 1))
        self.assert_same(asked, [("a", ()), ("a", (8,)), ("a", (8, 9)), ("a", (8, 9, 10)), ("a", (8, 9, 10, 11))])
        net = RestNet(REST, choose=lambda gate, used: 2)
        net.send("x", (1, 1))
        net.wait(10)
        self.assert_raises(InvalidPort, {"port": 2}, net.send, "x", (1, 1))
        self.assert_same((net.entries("a"), len(net.log), net.now), ((), 1, 10))

    def test_a_plain_net_has_no_time(self):
        for net in (Net(BOTH), NamedNet(BOTH)):
            for _ in range(20):
                net.send("x", (1, 1))
            self.assertEqual(len(net.entries("a")), 1)


class FallTest(Checks, unittest.TestCase):

    def test_all_entries_of_the_gate_are_gone(self):
        net = RestNet(ONE)
        for target in ((1, 1), (2, 1)):
            net.send("x", target)
        net.send("y", (1, 1))
        self.assertIsNone(net.fall(gate="a"))
        self.assert_same([len(net.entries(gate)) for gate in "ab"], [0, 1])
        self.assert_same(net.send("p", (5, 2)), ("lost", "closed", "a"))
        self.assert_same(net.send("x", (1, 1)), ("heard", "p", (5, 4)))
        self.assert_same(net.now, 0)

    def test_a_gate_without_entries(self):
        net = RestNet(ONE)
        self.assertIsNone(net.fall("b"))
        net.send("x", (1, 1))
        net.fall("b")
        net.fall("b")
        self.assert_same(len(net.entries("a")), 1)

    def test_what_is_no_gate(self):
        net = RestNet(REST)
        net.send("x", (1, 1))
        before = state(net)
        for value in values_but(["a", "b"]):
            self.assert_raises(NoStation, {"name": value}, net.fall, value)
        self.assertEqual(state(net), before)


class UndoTest(Checks, unittest.TestCase):

    def test_of_packets_behind_which_was_waited(self):
        net = RestNet(REST)
        net.wait(3)
        states = [state(net)]
        for target, units in (((1, 1), 4), ((2, 1), 9), ((1, 1), 10), ((1, 1), 1)):
            net.send("x", target)
            net.wait(units)
            states.append(state(net))
        # what was waited behind a packet that stays is there still
        for at in (3, 2, 1):
            self.assertIsNone(net.undo())
            self.assertEqual(state(net), states[at])
        net.undo(count=1)
        self.assertEqual(state(net), states[0])
        self.assert_same(net.now, 3)

    def test_of_several_packets(self):
        net = RestNet(REST)
        net.send("x", (1, 1))
        net.wait(5)
        before = state(net)
        for _ in range(3):
            net.send("x", (2, 1))
            net.wait(20)
            net.fall("a")
        net.undo(3)
        self.assertEqual(state(net), before)
        # the entry was last used at 0, and not later
        net.wait(4)
        self.assertEqual(len(net.entries("a")), 1)
        net.wait(1)
        self.assertEqual(len(net.entries("a")), 0)

    def test_the_time_of_an_entry_that_was_sent_to_the_same_target_is_taken_back(self):
        net = RestNet(REST)
        net.send("x", (1, 1))
        net.wait(9)
        net.send("x", (1, 1))
        net.undo()
        net.wait(1)
        self.assert_same(net.entries("a"), ())

    def test_of_packets_behind_which_a_gate_fell(self):
        net = RestNet(ONE)
        net.send("x", (1, 1))
        net.send("y", (1, 1))
        before = state(net)
        net.send("x", (2, 1))
        net.fall("a")
        net.fall("b")
        net.undo()
        self.assertEqual(state(net), before)
        net.fall("a")
        net.undo()
        self.assert_same([len(net.entries(gate)) for gate in "ab"], [1, 0])
        self.assert_same(net.send("x", (1, 1)), ("heard", "p", (5, 2)))

    def test_what_fell_behind_a_packet_that_stays(self):
        net = RestNet(ONE)
        net.send("x", (1, 1))
        net.fall("a")
        net.send("x", (2, 1))
        net.undo()
        self.assert_same(net.entries("a"), ())
        self.assert_same(len(net.log), 1)
        net.undo()
        self.assert_same(net.entries("a"), ())

    def test_entries_that_had_ended_before_the_gate_fell(self):
        net = RestNet(REST)
        net.send("x", (1, 1))
        before = state(net)
        net.send("p", (1, 1))
        net.wait(10)
        net.fall("a")
        net.undo()
        self.assertEqual(state(net), before)
        self.assertEqual(len(net.entries("a")), 1)

    def test_entries_that_had_ended_before_another_one_took_their_place(self):
        net = RestNet(REST)
        net.send("x", (1, 1))
        net.send("x", (2, 1))
        before = state(net)
        net.send("p", (1, 1))
        net.wait(10)
        net.send("x", (3, 1))
        net.undo(2)
        self.assertEqual(state(net), before)
        self.assert_same(net.send("p", (5, 2)), ("heard", "x", (1, 1)))
        self.assert_same(net.send("p", (5, 3)), ("lost", "closed", "a"))

    def test_what_was_waited_and_fell_before_the_first_packet_stays(self):
        net = RestNet(REST)
        net.wait(7)
        net.fall("a")
        net.send("x", (1, 1))
        net.wait(2)
        net.undo()
        self.assert_same((net.now, net.log), (7, ()))
        net.wait(1)
        self.assert_raises(NothingToUndo, {"count": 1}, net.undo)
        self.assert_same(net.now, 8)

    def test_wrong_counts(self):
        net = RestNet(REST)
        net.wait(2)
        self.assert_raises(NothingToUndo, {"count": 1}, net.undo)
        net.send("x", (1, 1))
        net.wait(5)
        before = state(net)
        for value in values_but([1]) + [2, 0, True, -1]:
            self.assert_raises(NothingToUndo, {"count": value}, net.undo, value)
        self.assertEqual(state(net), before)

    def test_the_log_has_packets_alone(self):
        net = RestNet(REST)
        net.wait(1)
        net.send("x", (1, 1))
        net.wait(1)
        net.fall("a")
        self.assert_same(net.log, (("x", (1, 1), ("heard", "p", (5, 2))),))
        self.assert_same(net.told, ((5, 2),))


class TwinTest(Checks, unittest.TestCase):

    def test_now_of_a_twin(self):
        net = RestNet(REST, choose=Ports(30))
        net.wait(4)
        net.send("x", (1, 1))
        net.wait(2)
        twin = net.twin()
        self.assertIs(twin.__class__, RestNet)
        self.assertIs(twin == net, True)
        self.assert_same(twin.now, 6)
        twin.wait(8)
        self.assert_same((net.now, len(net.entries("a")), len(twin.entries("a"))), (6, 1, 0))
        self.assertIs(twin == net, False)
        twin.undo()
        self.assert_same((twin.now, net.now), (4, 6))
        net.fall("a")
        net.undo()
        self.assertIs(twin == net, True)
        self.assert_same(twin.send("x", (1, 1)), net.send("x", (1, 1)))

    def test_twins_take_back_alone(self):
        net = RestNet(REST)
        net.send("x", (1, 1))
        net.send("p", (1, 1))
        net.wait(10)
        net.send("x", (2, 1))
        net.fall("a")
        twin = net.twin()
        twin.undo(2)
        twin.send("x", (3, 1))
        self.assert_same(twin.entries("a"), (((10, 1), None, 2, ((1, 1), (3, 1))),))
        net.undo(2)
        self.assert_same(net.entries("a"), (((10, 1), None, 2, ((1, 1),)),))
        net.send("x", (4, 1))
        self.assert_same(twin.entries("a"), (((10, 1), None, 2, ((1, 1), (3, 1))),))

    def test_a_fall_behind_a_packet_that_both_have(self):
        net = RestNet(REST)
        net.send("x", (1, 1))
        net.send("x", (2, 1))
        twin = net.twin()
        net.fall("a")
        twin.undo()
        self.assert_same(twin.entries("a"), (((10, 1), None, 2, ((1, 1),)),))
        net.undo()
        self.assertIs(twin == net, True)

    def test_equal(self):
        one, two = RestNet(REST), RestNet(REST, choose=Ports(2))
        self.assertIs(one == two, True)
        one.wait(1)
        self.assertIs(one == two, False)
        self.assertIs(one != two, True)
        two.wait(1)
        self.assertIs(one == two, True)
        one.send("x", (1, 1))
        self.assertIs(one == two, False)
        two.send("x", (1, 1))
        self.assertIs(one == two, True)
        # the time at which an entry was used last is no part of this
        one.wait(2)
        one.send("p", (1, 1))
        two.send("p", (1, 1))
        two.wait(2)
        self.assertIs(one == two, True)
        one.fall("a")
        self.assertIs(one == two, False)
        self.assertIs(RestNet(REST) == RestNet(ONE), False)

    def test_no_other_value_is_equal(self):
        for value in any_values():
            if value.__class__ is not RestNet:
                self.assertIs(RestNet(ONE) == value, False)
        for other in (Net(ONE), NamedNet(ONE)):
            self.assertIs(RestNet(ONE) == other, False)
            self.assertIs(other == RestNet(ONE), False)

    def test_trials(self):
        net = RestNet(REST)
        net.wait(2)
        net.send("x", (1, 1))
        before = state(net)
        with net.trial() as held:
            self.assertIs(held, net)
            held.wait(5)
            held.send("x", (2, 1))
            held.fall("a")
            self.assertNotEqual(state(net), before)
        self.assertEqual(state(net), before)
        with self.assertRaises(Odd):
            with net.trial():
                net.undo()
                net.wait(100)
                raise Odd()
        self.assertEqual(state(net), before)
        self.assertEqual(tried(net, lambda one: one.wait(10)), 12)
        self.assertEqual(state(net), before)
        net.wait(9)
        self.assertEqual(len(net.entries("a")), 1)


class NetTest(Checks, unittest.TestCase):
    """What holds for Net holds for RestNet."""

    def test_wrong_arguments(self):
        net = RestNet(REST)
        net.wait(5)
        net.send("x", (1, 1))
        before = state(net)
        for value in values_but(["x", "y", "p"]):
            self.assert_raises(NoStation, {"name": value}, net.send, value, None)
            self.assert_raises(NoStation, {"name": value}, lambda one: next(net.seen(one)), value)
        for value in values_but([(1, 1)]):
            self.assert_raises(InvalidTarget, {"target": value}, net.send, "x", value)
        for value in values_but(["a", "b"]):
            self.assert_raises(NoStation, {"name": value}, net.entries, value)
        self.assertEqual(state(net), before)

    def test_errors_of_choose_leave_the_net_as_before(self):
        answers = [9, Odd(), None, 9, 11]

        def choose(gate, used):
            answer = answers.pop(0)
            if isinstance(answer, Odd):
                raise answer
            return answer
        net = RestNet(REST, choose=choose)
        net.send("x", (1, 1))
        net.wait(10)
        before = state(net)
        with self.assertRaises(Odd):
            net.send("x", (1, 1))
        self.assertEqual(state(net), before)
        self.assert_raises(InvalidPort, {"port": None}, net.send, "x", (1, 1))
        self.assert_raises(InvalidPort, {"port": 9}, net.send, "x", (1, 1))
        self.assertEqual(state(net), before)
        self.assert_same(net.send("x", (1, 1)), ("heard", "p", (5, 11)))
        # the entry that had ended comes back when time does
        net.undo(2)
        self.assert_same((net.now, net.log), (0, ()))

    def test_without_rests_it_tells_the_same_as_a_net(self):
        worlds = [ONE, STRICT, DEEP, SIX] + [random_world(random.Random(seed), gates=5, hosts=4) for seed in range(60)]
        for seed, world in enumerate(worlds):
            rng = random.Random(seed)
            rest, net, model = RestNet(world), Net(world), PortModel(world, Ports())
            for _ in range(30):
                if model.log and rng.random() < 0.2:
                    count = rng.randint(1, min(3, len(model.log)))
                    for one in (rest, net, model):
                        one.undo(count)
                if rng.random() < 0.3:
                    rest.wait(rng.randint(1, 10 ** 9))
                known = [(address, port) for address in range(1, 10) for port in (0, 1, 2, 3)] + list(net.told) * 4
                host, target = rng.choice(world.hosts), rng.choice(known)
                self.assert_same(rest.send(host, target), net.send(host, target))
                self.assert_same(net.log[-1][2], model.send(host, target))
                self.assert_same((rest.log, rest.told), (net.log, net.told))
                for gate in world.gates:
                    self.assert_same(rest.entries(gate), net.entries(gate))
                for name in world.hosts:
                    self.assert_same(list(rest.seen(name)), list(net.seen(name)))


class ModelTest(Checks, unittest.TestCase):

    def test_random_deeds_against_the_model(self):
        words = set()
        for seed in range(200):
            rng = random.Random(seed)
            world = resting(random_world(rng, gates=5, hosts=5), rng)
            net, model = RestNet(world), RestModel(world, Ports())
            for _ in range(50):
                deed = rng.random()
                if deed < 0.15 and model.log:
                    count = rng.randint(1, min(4, len(model.log)))
                    net.undo(count)
                    model.undo(count)
                elif deed < 0.4:
                    units = rng.randint(1, 4)
                    model.wait(units)
                    self.assert_same(net.wait(units), model.now)
                elif deed < 0.45 and world.gates:
                    gate = rng.choice(world.gates)
                    net.fall(gate)
                    model.fall(gate)
                elif deed < 0.5:
                    net = net.twin()
                else:
                    known = [(address, port) for address in range(1, 10) for port in (0, 1, 2)] + list(net.told) * 6
                    host, target = rng.choice(world.hosts), rng.choice(known)
                    self.assert_same(net.send(host, target), model.send(host, target))
                    words.add(net.log[-1][2][1] if net.log[-1][2][0] == "lost" else "heard")
                self.assert_same([net.entries(gate) for gate in world.gates], [model.rows(g) for g in world.gates])
                self.assert_same((net.now, net.log), (model.now, tuple(model.log)))
        self.assertEqual(words, {"heard", "port", "nowhere", "unturned", "closed", "barred"})


if __name__ == "__main__":
    unittest.main()
