"""Where a packet goes as far as addresses tell it ([7], [14])."""

import inspect
import unittest

from meetbehind.errors import InvalidTarget, NoStation
from meetbehind.kinds import Kind
from meetbehind.routes import all_routes, free_addresses, hidden, reachable, way
from meetbehind.worlds import World
from tests.samples import Checks, DEEP, INNER, ONE, SIX, values_but


def addresses_but_none():
    return values_but([1, 2, 5, 10, 99])


class WayTest(Checks, unittest.TestCase):

    def test_ways(self):
        self.assert_same(way(ONE, "x", 10), ("station", (), "x"))
        self.assert_same(way(ONE, "x", 5), ("turn", (), "a"))
        self.assert_same(way(ONE, "x", 7), ("station", ("a",), "b"))
        self.assert_same(way(ONE, "x", 99), ("nowhere", ("a",), None))
        self.assert_same(way(ONE, "p", 10), ("nowhere", (), None))
        self.assert_same(way(world=ONE, host="p", address=1), ("station", (), "p"))

    def test_three_gates_within_one_another(self):
        self.assert_same(way(DEEP, "w", 10), ("station", (), "w"))
        self.assert_same(way(DEEP, "w", 7), ("turn", (), "c"))
        self.assert_same(way(DEEP, "w", 5), ("station", ("c",), "v"))
        self.assert_same(way(DEEP, "w", 6), ("turn", ("c",), "b"))
        self.assert_same(way(DEEP, "u", 5), ("turn", (), "a"))
        self.assert_same(way(DEEP, "u", 6), ("station", (), "b"))
        self.assert_same(way(DEEP, "w", 99), ("nowhere", ("c", "b", "a"), None))
        self.assert_same(way(DEEP, "v", 10), ("station", ("b", "a"), "t"))

    def test_a_station_of_the_realm_comes_before_the_gate_around_it(self):
        world = World(("gate", "a", "", 5, Kind("one", "any")), ("host", "x", "a", 5), ("host", "y", "a", 6))
        self.assert_same(way(world, "y", 5), ("station", (), "x"))
        self.assert_same(way(world.without("x"), "y", 5), ("turn", (), "a"))

    def test_whether_a_gate_turns_does_not_matter(self):
        for turns in (False, True):
            world = ONE.with_kind("a", Kind("one", "any", turns=turns))
            self.assert_same(way(world, "x", 5), ("turn", (), "a"))

    def test_all_routes_of_a_world(self):
        for world in (ONE, DEEP, SIX, INNER, World(*ONE.parts[:2]), World()):
            routes = all_routes(world)
            self.assertEqual(sorted(routes), ["", *world.gates])
            for realm in routes:
                self.assertEqual(set(routes[realm]), {part[3] for part in world.parts})
            for host in world.hosts:
                for address, route in routes[world.realm(host)].items():
                    self.assert_same(route, way(world, host, address))

    def test_wrong_hosts_and_addresses(self):
        for value in values_but(["x", "y", "p"]):
            self.assert_raises(NoStation, {"name": value}, way, ONE, value, 10)
            self.assert_raises(NoStation, {"name": value}, way, ONE, value, None)
        for value in addresses_but_none() + [0, 100, "10", True]:
            self.assert_raises(InvalidTarget, {"target": value}, way, ONE, "x", value)
        for address in (1, 99):
            way(ONE, "x", address)


class HiddenTest(Checks, unittest.TestCase):

    def test_hidden(self):
        world = ONE.with_part(("host", "z", "a", 1))
        self.assert_same(hidden(world, "a", 1), ("p",))
        self.assert_same(hidden(ONE, "a", 1), ())
        self.assert_same(hidden(world=ONE, realm="", address=1), ())
        self.assert_same(hidden(DEEP, "c", 10), ("t",))
        self.assert_same(hidden(DEEP, "b", 10), ())
        self.assert_same(hidden(SIX, "c", 99), ("i", "h", "n"))
        self.assert_same(hidden(SIX, "b", 1), ("b", "a"))

    def test_the_gate_at_which_a_packet_turns_is_not_hidden(self):
        self.assert_same(hidden(ONE, "a", 5), ())
        world = World(("gate", "a", "", 5, Kind("one", "any")), ("gate", "b", "a", 5, Kind("one", "any")),
                      ("host", "x", "b", 1))
        self.assert_same(hidden(world, "b", 5), ("a",))
        self.assert_same(hidden(DEEP, "c", 5), ("a",))
        self.assert_same(hidden(DEEP, "c", 7), ("u",))

    def test_from_inside_outwards(self):
        world = World(("gate", "a", "", 1, Kind("one", "any")), ("gate", "b", "a", 1, Kind("one", "any")),
                      ("gate", "c", "b", 1, Kind("one", "any")), ("host", "z", "c", 50), ("host", "m", "b", 50),
                      ("host", "x", "a", 50), ("host", "b" * 2, "", 50))
        self.assert_same(hidden(world, "c", 50), ("m", "x", "bb"))
        self.assert_same(hidden(world, "b", 50), ("x", "bb"))
        self.assert_same(hidden(world.without("z"), "c", 50), ("x", "bb"))

    def test_wrong_realms_and_addresses(self):
        for value in values_but(["", "a", "b"]) + ["x", "-"]:
            self.assert_raises(NoStation, {"name": value}, hidden, ONE, value, 10)
            self.assert_raises(NoStation, {"name": value}, hidden, ONE, value, None)
        for value in addresses_but_none():
            self.assert_raises(InvalidTarget, {"target": value}, hidden, ONE, "", value)

    def test_hidden_stations_are_those_that_way_leaves_out(self):
        for world in (ONE, DEEP, SIX, INNER):
            for host in world.hosts:
                for address in range(1, 100):
                    word, gates, place = way(world, host, address)
                    realms = [world.realm(host)] + [world.realm(name) for name in world.chain(host)]
                    further = realms[len(gates) + 1 + (word == "turn"):]
                    found = [world.station(realm, address) for realm in further]
                    self.assert_same(hidden(world, world.realm(host), address), tuple(n for n in found if n is not None))


class ReachableTest(Checks, unittest.TestCase):

    def test_reachable(self):
        self.assert_same(list(reachable(ONE, "y")), [(1, "p"), (5, "a"), (10, "y")])
        self.assert_same(list(reachable(world=ONE, host="p")), [(1, "p"), (5, "a"), (7, "b")])
        self.assert_same(list(reachable(DEEP, "w")), [(5, "v"), (10, "w")])
        world = World(("host", "x", "", 99), ("host", "y", "", 1))
        self.assert_same(list(reachable(world, "x")), [(1, "y"), (99, "x")])

    def test_reachable_is_a_generator(self):
        self.assertTrue(inspect.isgenerator(reachable(ONE, "x")))
        for value in values_but(["x", "y", "p"]):
            self.assert_raises(NoStation, {"name": value}, lambda one: next(reachable(ONE, one)), value)

    def test_free_addresses(self):
        self.assertTrue(inspect.isgenerator(free_addresses(ONE)))
        self.assert_same(list(free_addresses(world=ONE)), [n for n in range(1, 100) if n not in (1, 5, 7, 10)])
        self.assert_same(list(free_addresses(World())), list(range(1, 100)))
        world = World(("host", "x", "", 99), ("host", "y", "", 1))
        self.assert_same(list(free_addresses(world)), list(range(2, 99)))


if __name__ == "__main__":
    unittest.main()
