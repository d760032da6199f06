"""Hosts between two hosts, and groups of hosts that talk ([23])."""

import random
import unittest

from meetbehind.closure import Closure
from meetbehind.errors import NoStation
from meetbehind.kinds import Kind
from meetbehind.relays import groups, relays
from meetbehind.worlds import World
from tests.model import random_world
from tests.samples import BIG, Checks, CHAIN, DEEP, DRIFT, INNER, ONE, SIX, STRICT, TALKERS, values_but

WORLDS = (ONE, STRICT, INNER, CHAIN, DEEP, SIX, DRIFT, TALKERS, BIG)
SHUT = Kind("both", "both")
LINE = World(("gate", "a", "", 5, SHUT), ("gate", "b", "a", 6, SHUT), ("gate", "c", "b", 7, SHUT),
             ("host", "w", "c", 11), ("host", "x", "b", 12), ("host", "y", "a", 13), ("host", "z", "", 14),
             ("host", "v", "c", 15))
# hosts in the realms a and b do not hear each other, nor do they know a third one
APART = World(("gate", "a", "", 5, SHUT), ("gate", "b", "", 7, SHUT), ("host", "x", "a", 10), ("host", "z", "a", 11),
              ("host", "y", "b", 10), ("host", "w", "b", 12))


def talk(closure, x, y):
    return closure.heard(x, y) and closure.heard(y, x)


def slow_groups(world):
    """Groups by joining two of them again and again."""
    closure = Closure(world)
    found = [{host} for host in world.hosts]
    for _ in world.hosts:
        for x in world.hosts:
            for y in world.hosts:
                one, two = [[part for part in found if host in part][0] for host in (x, y)]
                if talk(closure, x, y) and one is not two:
                    found = [part for part in found if part is not one and part is not two] + [one | two]
    return tuple(sorted(tuple(sorted(part)) for part in found))


class RelaysTest(Checks, unittest.TestCase):

    def test_the_example(self):
        self.assert_same([relays(ONE, "x", "y"), groups(ONE)], [("p",), (("p", "x", "y"),)])

    def test_by_name(self):
        self.assert_same(relays(world=ONE, x="x", y="p"), ("y",))

    def test_a_host_that_is_heard_by_both_but_does_not_hear_them(self):
        # p tells x and y nothing that they could use, as b bars all that was not asked for
        world = World(("gate", "a", "", 5, SHUT), ("host", "x", "a", 10), ("host", "y", "", 2), ("host", "p", "", 1))
        silent = world.with_part(("gate", "b", "", 7, SHUT)).with_part(("host", "q", "b", 11))
        self.assert_same(relays(silent, "x", "y"), ("p",))
        self.assertTrue(Closure(silent).heard("q", "y"))
        self.assertFalse(talk(Closure(silent), "q", "x"))

    def test_one_host(self):
        self.assert_same(relays(ONE, "x", "x"), ("p", "y"))
        self.assert_same(relays(STRICT, "x", "x"), ("p",))
        self.assert_same(relays(World(("host", "x", "", 1)), "x", "x"), ())

    def test_nobody_talks(self):
        for x, y in (("x", "y"), ("z", "w"), ("y", "z")):
            self.assert_same(relays(APART, x, y), ())
        self.assert_same(relays(APART, "x", "z"), ())

    def test_all_worlds(self):
        for world in WORLDS + (LINE, APART):
            closure = Closure(world)
            for x in world.hosts:
                for y in world.hosts:
                    expected = [name for name in world.hosts
                                if name not in (x, y) and talk(closure, name, x) and talk(closure, name, y)]
                    self.assert_same(relays(world, x, y), tuple(expected))

    def test_wrong_hosts_in_their_order(self):
        for value in values_but(["x", "y", "p"]):
            self.assert_raises(NoStation, {"name": value}, relays, ONE, value, "x")
            self.assert_raises(NoStation, {"name": value}, relays, ONE, "x", value)
            self.assert_raises(NoStation, {"name": value}, relays, ONE, value, None)


class GroupsTest(Checks, unittest.TestCase):

    def test_hosts_that_talk_with_nobody(self):
        self.assert_same(groups(World()), ())
        self.assert_same(groups(world=World(("host", "x", "", 1))), (("x",),))
        self.assert_same(groups(APART), (("w", "y"), ("x", "z")))
        self.assert_same(groups(APART.without("z")), (("w", "y"), ("x",)))

    def test_a_chain_of_talks(self):
        world = World(("gate", "a", "", 5, SHUT), ("gate", "b", "", 7, SHUT), ("host", "x", "a", 10), ("host", "y", "b", 11),
                      ("host", "p", "", 1))
        self.assertFalse(talk(Closure(world), "x", "y"))
        self.assert_same(groups(world), (("p", "x", "y"),))
        self.assert_same(groups(world.without("p")), (("x",), ("y",)))

    def test_a_host_that_joins_several_groups(self):
        # no two of s, t and u talk; z talks with each of them, and stands last
        hosts = [("host", name, gate, 40 + at) for at, (name, gate) in enumerate(zip("stu", "abc"))]
        world = World(("gate", "a", "", 5, SHUT), ("gate", "b", "", 6, SHUT), ("gate", "c", "", 7, SHUT), *hosts)
        self.assert_same(groups(world), (("s",), ("t",), ("u",)))
        self.assert_same(groups(world.with_part(("host", "z", "", 1))), (("s", "t", "u", "z"),))

    def test_one_way_is_no_talk(self):
        self.assertTrue(Closure(STRICT).heard("y", "x"))
        self.assertFalse(Closure(STRICT).heard("x", "y"))
        self.assert_same(groups(STRICT), (("p", "x", "y"),))
        # without p nobody learns anything
        self.assert_same(groups(STRICT.without("p")), (("x",), ("y",)))

    def test_all_worlds(self):
        for world in WORLDS + (LINE, APART):
            self.assert_same(groups(world), slow_groups(world))

    def test_random_worlds(self):
        sizes = []
        for seed in range(150):
            world = random_world(random.Random(seed), gates=5, hosts=6, last=9)
            found = groups(world)
            self.assert_same(found, slow_groups(world))
            self.assertEqual(sorted(host for part in found for host in part), list(world.hosts))
            sizes.append(len(found))
        self.assertGreater(len(set(sizes)), 2)


if __name__ == "__main__":
    unittest.main()
