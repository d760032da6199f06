"""Packets by names, as the rounds ask for them: the same as those by the words of the document ([7], [9] to [11])."""

import random
import unittest

from meetbehind.closure import Closure
from meetbehind.names import show_name, sources
from meetbehind.naming import known_at_first
from meetbehind.packets import walk
from meetbehind.roads import kinds_of, roads_of
from tests.model import NameModel, random_world
from tests.samples import BIG, Checks, CHAIN, DEEP, DRIFT, INNER, ONE, SIX, STRICT, TALKERS

WORLDS = (ONE, STRICT, INNER, CHAIN, DEEP, SIX, DRIFT, TALKERS)


def some_worlds(many):
    return list(WORLDS) + [random_world(random.Random(seed), gates=5, hosts=4, last=12) for seed in range(many)]


def names_of(world):
    return list(Closure(world).known(99))


class PacketsTest(Checks, unittest.TestCase):

    def test_what_packets_show(self):
        for world in some_worlds(40):
            roads = roads_of(world)
            for host in world.hosts:
                for name in names_of(world):
                    self.assert_same(tuple(roads.packet(host, name).shows), sources(world, host, name))

    def test_what_becomes_of_them_if_all_was_sent(self):
        for world in some_worlds(30):
            names = names_of(world)
            roads = roads_of(world)
            packets = [roads.packet(host, name) for host in world.hosts for name in names]
            sends = [(packet.host, packet.name) for packet in packets]
            opened = [pair for packet in packets for pair in packet.gives]
            for packet in packets:
                found = walk(world, sends, packet.host, packet.name)
                if packet.needs is None:
                    self.assert_same(found, packet.end)
                elif all(pair in opened for pair in packet.needs):
                    self.assert_same(found, packet.end + (packet.shows[-1],))
                else:
                    self.assertEqual(found[:2], ("lost", "barred"))

    def test_packets_that_change_nothing_are_left_out(self):
        left_out = 0
        for world in some_worlds(40):
            names = sorted(names_of(world), key=show_name)
            roads, others = roads_of(world), roads_of(world)
            found = roads.packets(world.hosts, names)
            pairs = [(packet.host, packet.name) for packet in found]
            every = [(host, name) for host in world.hosts for name in names]
            # in order, none twice
            self.assertEqual(pairs, [pair for pair in every if pair in pairs])
            for pair in every:
                packet = others.packet(*pair)
                self.assertEqual(packet.needs is None, packet.end[0] == "lost")
                if pair not in pairs:
                    left_out += 1
                    self.assertEqual((packet.needs, packet.gives), (None, []))
            # also where each of them was asked for by itself before
            for packet in others.packets(world.hosts, names):
                if (packet.host, packet.name) not in pairs:
                    self.assertEqual((packet.needs, packet.gives), (None, []))
            self.assertLessEqual(set(pairs), {(packet.host, packet.name) for packet in others.packets(world.hosts, names)})
        self.assertGreater(left_out, 100)

    def test_each_packet_is_worked_out_once(self):
        roads = roads_of(ONE)
        for host in ONE.hosts:
            for name in names_of(ONE):
                self.assertIs(roads.packet(host, name), roads.packet(host, name))
        packets = roads.packets(ONE.hosts, names_of(ONE))
        self.assertEqual([id(packet) for packet in roads.packets(ONE.hosts, names_of(ONE))], [id(packet) for packet in packets])
        self.assertEqual(roads.packets((), names_of(ONE)), [])
        self.assertEqual(roads.packets(ONE.hosts, []), [])

    def test_other_kinds(self):
        for seed, world in enumerate(some_worlds(30)):
            rng = random.Random(seed)
            if not world.gates:
                continue
            other = world
            for gate in world.gates:
                other = other.with_kind(gate, world.kind(rng.choice(world.gates)))
            one, two = roads_of(world).with_kinds(kinds_of(other)), roads_of(other)
            for host in world.hosts:
                for name in names_of(other):
                    self.assertEqual(vars(one.packet(host, name)), vars(two.packet(host, name)))

    def test_gates_that_forget(self):
        for seed, world in enumerate(some_worlds(40)):
            rng = random.Random(seed)
            forgets = tuple(gate for gate in world.gates if rng.random() < 0.4)
            model = NameModel(world, forgets=forgets)
            roads = roads_of(world, forgets)
            for name in names_of(world):
                self.assertIs(roads.is_told(name), name[0] == "lent" and model.tellable(name))
                for host in world.hosts:
                    self.assert_same(list(roads.packet(host, name).shows), model.way(host, name)[0])


class FirstsTest(Checks, unittest.TestCase):

    def test_own_and_blind_names(self):
        for world in some_worlds(20):
            expected = {("own", part[3]) if part[0] == "host" else ("blind", part[3]) for part in world.parts}
            self.assertEqual(sorted(known_at_first(world)), sorted(expected))
            self.assert_same(tuple(roads_of(world).at_first()), tuple(sorted(expected, key=show_name)))
            self.assert_same(tuple(roads_of(world).at_first()), Closure(world).known(1))

    def test_the_list_belongs_to_the_caller(self):
        roads = roads_of(ONE)
        roads.at_first().clear()
        self.assertEqual(len(roads.at_first()), 4)


if __name__ == "__main__":
    unittest.main()
