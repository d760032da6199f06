"""Worlds of gates and hosts ([3], [13])."""

import unittest

from meetbehind.errors import InvalidKind, InvalidPart, InvalidText, Needed, NoRealm, NoStation, Taken, TooDeep, TooMany
from meetbehind.kinds import Kind
from meetbehind.worlds import World
from tests.samples import Checks, DEEP, ONE, SIX, any_values, values_but

FREE = Kind("one", "any")


def gate(name, realm="", address=1, kind=FREE):
    return ("gate", name, realm, address, kind)


def host(name, realm="", address=1):
    return ("host", name, realm, address)


SIX_GATES = [gate("abcdef"[at], "", at + 1) for at in range(6)]
EIGHT_HOSTS = [host("stuvwxyz"[at], "", at + 11) for at in range(8)]


class PartsTest(Checks, unittest.TestCase):

    def test_the_empty_world(self):
        world = World()
        self.assert_same((world.parts, world.gates, world.hosts, len(world)), ((), (), (), 0))
        self.assertEqual((str(world), repr(world)), ("", "World(0 gates, 0 hosts)"))
        self.assertEqual(world.stations(""), ())
        self.assertIsNone(world.station("", 1))
        self.assertEqual(World.read(""), world)

    def test_class_values(self):
        self.assert_same((World.MOST_GATES, World.MOST_HOSTS, World.MOST_DEEP), (6, 8, 3))

    def test_parts_as_given(self):
        parts = (host("x", "", 99), gate("b", "", 1), gate("a", "b", 99), host("w", "a", 1))
        world = World(*parts)
        self.assert_same(world.parts, parts)
        self.assert_same((world.gates, world.hosts, len(world)), (("a", "b"), ("w", "x"), 4))
        for name in ("parts", "gates", "hosts"):
            with self.assertRaises(AttributeError):
                setattr(world, name, ())

    def test_any_value_that_is_no_part(self):
        for value in values_but([("host", "x", "", 1)]):
            self.assert_raises(InvalidPart, {"index": 0}, World, value)
            self.assert_raises(InvalidPart, {"index": 1}, World, host("q"), value)

    def test_each_value_of_a_part(self):
        right = gate("g")
        for value in any_values():
            for at in range(5):
                part = right[:at] + (value,) + right[at + 1:]
                if at == 1 and value in ("a", "b", "x", "y", "p", "abcdefgh", "one"):
                    continue
                if at == 2 and isinstance(value, str) and value in ("", "a", "b", "x", "y", "p", "abcdefgh", "one"):
                    continue
                if at == 3 and isinstance(value, int) and value in (1, 2, 5, 10, 99) and value is not True:
                    continue
                if at == 4 and isinstance(value, Kind):
                    continue
                self.assert_raises(InvalidPart, {"index": 0}, World, part)

    def test_forms_that_are_nearly_right(self):
        for part in (
                host("x") + (FREE,), gate("x")[:4], gate("x") + (1,), ["host", "x", "", 1], ("Host", "x", "", 1),
                ("host", "x", ""), ("gate", "x"), ("gates",) + gate("x")[1:], host("x", "", 0), host("x", "", 100), host("x", "", True),
                host("x", "", "1"), host("x", None, 1), host("x", "-", 1), host("x", "A", 1), host("", "", 1),
                host("abcdefghi", "", 1), host("x", "abcdefghi", 1), host("X", "", 1), host("x1", "", 1),
                host("x\n", "", 1), gate("x", "", 1, "one/any"), gate("x", "", 1, None), (), ("host",), "host"):
            self.assert_raises(InvalidPart, {"index": 1}, World, host("q", "", 50), part)

    def test_bounds_of_addresses_and_names(self):
        world = World(host("a", "", 1), host("abcdefgh", "", 99), gate("zzzzzzzz", "", 98))
        self.assertEqual(world.stations(""), ("a", "zzzzzzzz", "abcdefgh"))

    def test_no_realm(self):
        self.assert_raises(NoRealm, {"index": 0}, World, host("x", "a"))
        self.assert_raises(NoRealm, {"index": 0}, World, host("x", "a"), gate("a"))
        self.assert_raises(NoRealm, {"index": 1}, World, gate("a"), gate("b", "b"))
        self.assert_raises(NoRealm, {"index": 1}, World, host("x"), host("y", "x"))

    def test_taken(self):
        self.assert_raises(Taken, {"index": 1}, World, host("x"), host("x", "", 2))
        self.assert_raises(Taken, {"index": 1}, World, host("x"), gate("x", "", 2))
        self.assert_raises(Taken, {"index": 1}, World, host("x"), host("y"))
        self.assert_raises(Taken, {"index": 2}, World, gate("a"), host("x", "a", 7), gate("b", "a", 7))

    def test_equal_addresses_in_unlike_realms(self):
        world = World(gate("a", "", 1), gate("b", "a", 1), host("x", "b", 1))
        self.assertEqual([world.station(realm, 1) for realm in ("", "a", "b")], ["a", "b", "x"])

    def test_three_gates_around_a_realm_and_a_fourth(self):
        three = [gate("a"), gate("b", "a"), gate("c", "b")]
        world = World(*three, host("x", "c"))
        self.assertEqual(world.chain("x"), ("c", "b", "a"))
        self.assertEqual(world.chain("c"), ("b", "a"))
        self.assert_raises(TooDeep, {"index": 3}, World, *three, gate("d", "c"))
        self.assertEqual(len(World(*three, gate("d", "b", 2))), 4)

    def test_six_gates_and_a_seventh(self):
        world = World(*SIX_GATES)
        self.assertEqual(len(world.gates), 6)
        self.assert_raises(TooMany, {"limit": 6}, World, *SIX_GATES, gate("g", "", 7))
        self.assert_raises(TooMany, {"limit": 6}, world.with_part, gate("g", "", 7))
        self.assertEqual(len(world.with_part(host("x", "", 7))), 7)

    def test_eight_hosts_and_a_ninth(self):
        world = World(*EIGHT_HOSTS)
        self.assertEqual(len(world.hosts), 8)
        self.assert_raises(TooMany, {"limit": 8}, World, *EIGHT_HOSTS, host("a"))
        self.assertEqual(len(World(*SIX_GATES, *EIGHT_HOSTS)), 14)
        self.assert_raises(TooMany, {"limit": 8}, World, *SIX_GATES, *EIGHT_HOSTS, host("i", "a", 77))

    def test_the_order_of_errors_of_one_part(self):
        deep = [gate("a"), gate("b", "a"), gate("c", "b"), gate("d", "", 2), gate("e", "", 3), gate("f", "", 4)]
        self.assert_raises(InvalidPart, {"index": 6}, World, *deep, ("gate", "a", "c", 1, None))
        self.assert_raises(NoRealm, {"index": 6}, World, *deep, gate("a", "z", 1))
        self.assert_raises(Taken, {"index": 6}, World, *deep, gate("a", "c", 1))
        self.assert_raises(TooDeep, {"index": 6}, World, *deep, gate("g", "c", 1))
        self.assert_raises(TooMany, {"limit": 6}, World, *deep, gate("g", "b", 2))
        self.assert_raises(Taken, {"index": 8}, World, *EIGHT_HOSTS, host("s", "", 90))
        self.assert_raises(NoRealm, {"index": 8}, World, *EIGHT_HOSTS, host("s", "q", 90))

    def test_later_parts_are_looked_at_behind(self):
        self.assert_raises(NoRealm, {"index": 0}, World, host("x", "a"), None)
        self.assert_raises(Taken, {"index": 1}, World, host("x"), host("x"), None)
        self.assert_raises(TooMany, {"limit": 6}, World, *SIX_GATES, gate("g", "", 7), None)
        self.assert_raises(InvalidPart, {"index": 6}, World, *SIX_GATES, None, gate("g", "", 7))


class LookTest(Checks, unittest.TestCase):

    def test_what_a_station_is(self):
        self.assertEqual([ONE.kind("a"), ONE.kind(gate="b")], [Kind("both", "any"), Kind("both", "far")])
        self.assertEqual([ONE.address("a"), ONE.address(name="x")], [5, 10])
        self.assertEqual([ONE.realm("a"), ONE.realm(name="x")], ["", "a"])
        self.assertEqual([ONE.chain("a"), ONE.chain(name="x"), ONE.chain("p")], [(), ("a",), ()])
        self.assertEqual([DEEP.chain(name) for name in "wvutcba"],
                         [("c", "b", "a"), ("b", "a"), ("a",), (), ("b", "a"), ("a",), ()])

    def test_any_value_that_is_no_station(self):
        for value in values_but(["a", "b", "x", "y", "p"]):
            for look in (ONE.address, ONE.realm, ONE.chain):
                self.assert_raises(NoStation, {"name": value}, look, value)
            self.assertIs(value in ONE, False)
        for value in values_but(["a", "b"]):
            self.assert_raises(NoStation, {"name": value}, ONE.kind, value)
        for name in ("a", "b", "x", "y", "p"):
            self.assertIs(name in ONE, True)

    def test_station(self):
        self.assertEqual([ONE.station("", 7), ONE.station(realm="a", address=10), ONE.station("b", 10)], ["b", "x", "y"])
        for value in values_but([1, 5]):
            self.assertIsNone(ONE.station("", value) if value != 7 else None)
        self.assertIsNone(World(host("x")).station("", True))
        self.assertEqual(World(host("x")).station("", 1), "x")
        for value in values_but(["", "a", "b"]) + ["x", "-"]:
            self.assert_raises(NoStation, {"name": value}, ONE.station, value, 10)
            self.assert_raises(NoStation, {"name": value}, ONE.station, value, [])
            self.assert_raises(NoStation, {"name": value}, ONE.stations, value)

    def test_stations(self):
        self.assert_same([ONE.stations(""), ONE.stations("a"), ONE.stations(realm="b")], [("p", "a", "b"), ("x",), ("y",)])
        world = World(host("z", "", 2), host("y", "", 10), gate("q", "", 9), host("i", "q", 1))
        self.assert_same(world.stations(""), ("z", "q", "y"))
        self.assert_same(SIX.stations(""), ("a", "d", "e", "o", "n"))
        self.assert_same(World(gate("a")).stations("a"), ())


class ChangeTest(Checks, unittest.TestCase):

    def test_with_part(self):
        part = host("z", "a", 1)
        world = ONE.with_part(part)
        self.assert_same(world.parts, ONE.parts + (part,))
        self.assertEqual(len(ONE), 5)
        self.assertEqual(ONE.with_part(part=part), world)
        for value in values_but([]):
            self.assert_raises(InvalidPart if value != ("host", "x", "", 1) else Taken, {"index": 5}, ONE.with_part, value)
        self.assert_raises(NoRealm, {"index": 5}, ONE.with_part, host("z", "z"))
        self.assert_raises(Taken, {"index": 5}, ONE.with_part, host("z", "a", 10))
        self.assert_raises(TooDeep, {"index": 7}, DEEP.with_part, gate("d", "c", 1))

    def test_a_world_with_other_kinds_is_a_world_of_its_own(self):
        for world in (ONE, DEEP, SIX):
            gates = world.gates
            other = world.with_kinds({gates[0]: FREE, gates[-1]: FREE})
            parts = [part[:4] + (FREE,) if part[1] in (gates[0], gates[-1]) else part for part in world.parts]
            again = World(*parts)
            self.assertEqual((other, other.parts, str(other), repr(other)), (again, again.parts, str(again), repr(again)))
            self.assertEqual((len(other), other.gates, other.hosts), (len(again), again.gates, again.hosts))
            for name in gates + world.hosts:
                self.assertEqual((other.address(name), other.realm(name), other.chain(name), name in other),
                                 (again.address(name), again.realm(name), again.chain(name), True))
            for gate in gates:
                self.assertEqual((other.kind(gate), other.stations(gate)), (again.kind(gate), again.stations(gate)))
                self.assertEqual(world.kind(gate), [part[4] for part in world.parts if part[1] == gate][0])
            self.assertEqual(other.without(world.hosts[0]).with_part(("host", "new", "", 77)),
                             again.without(world.hosts[0]).with_part(("host", "new", "", 77)))
            self.assertEqual(world.with_kinds({}), world)

    def test_with_kind(self):
        world = ONE.with_kind("a", FREE)
        self.assert_same(world.parts, (("gate", "a", "", 5, FREE),) + ONE.parts[1:])
        self.assertEqual(ONE.kind("a"), Kind("both", "any"))
        self.assertEqual(ONE.with_kind(gate="a", kind=FREE), world)
        for value in values_but(["a", "b"]):
            self.assert_raises(NoStation, {"name": value}, ONE.with_kind, value, FREE)
            self.assert_raises(NoStation, {"name": value}, ONE.with_kind, value, None)
        for value in values_but([FREE]) + ["one/any"]:
            self.assert_raises(InvalidKind, {"place": 0}, ONE.with_kind, "a", value)

    def test_without(self):
        world = ONE.without("x")
        self.assert_same(world.parts, ONE.parts[:2] + ONE.parts[3:])
        self.assert_same(world.without(name="a").parts, (ONE.parts[1],) + ONE.parts[3:])
        for value in values_but(["a", "b", "x", "y", "p"]):
            self.assert_raises(NoStation, {"name": value}, ONE.without, value)
        self.assert_raises(Needed, {"name": "a"}, ONE.without, "a")
        self.assert_raises(Needed, {"name": "b"}, World(gate("b"), gate("a", "b")).without, "b")
        self.assertEqual(World(gate("b"), gate("a", "b")).without("a"), World(gate("b")))

    def test_equal(self):
        parts = list(DEEP.parts)
        other = World(parts[6], *parts[:3], *parts[5:2:-1])
        self.assertIs(other == DEEP, True)
        self.assertIs(other != DEEP, False)
        self.assertNotEqual(other.parts, DEEP.parts)
        self.assertIs(ONE == ONE.without("p"), False)
        self.assertIs(ONE == ONE.with_kind("a", FREE), False)
        self.assertIs(ONE == ONE.with_kind("a", Kind("both", "any")), True)
        self.assertIs(World(host("x")) == World(host("x", "", 2)), False)
        for value in values_but([ONE]) + [ONE.parts, str(ONE)]:
            self.assertIs(ONE == value, False)


class TextTest(Checks, unittest.TestCase):

    def test_texts(self):
        self.assertEqual(str(ONE), "gate a - 5 both/any\ngate b - 7 both/far\nhost x a 10\nhost y b 10\nhost p - 1")
        self.assertEqual(repr(ONE), "World(2 gates, 3 hosts)")
        self.assertEqual(repr(World(gate("a"), host("x", "", 2))), "World(1 gates, 1 hosts)")
        self.assertEqual(str(World(gate("a", "", 1, Kind("one", "far", turns=True, rests=5)))),
                         "gate a - 1 one/far turns rests 5")

    def test_read_tells_what_was_written(self):
        for world in (ONE, DEEP, SIX, World(), World(gate("a", "", 99, Kind("far", "any", turns=True, rests=2)))):
            self.assert_same(World.read(str(world)).parts, world.parts)
            self.assert_same(World.read(text=str(world)).parts, world.parts)

    def test_read_takes_strings_only(self):
        for value in any_values():
            if not isinstance(value, str):
                self.assert_raises(InvalidText, {"line": 0, "word": 0}, World.read, value)

    def test_wrong_words(self):
        for text, word in (
                ("gate a - 5", 4), ("host x a 10 z", 4), ("gate", 1), ("host", 1), ("gate a", 2), ("gate a -", 3),
                ("host x", 2), ("host x -", 3), ("host x - 1 ", 4), ("host x - 1 one/any", 4), (" ", 0),
                (" host x - 1", 0), ("Host x - 1", 0), ("gates a - 1 one/any", 0), ("host  x - 1", 1),
                ("host X - 1", 1), ("host abcdefghi - 1", 1), ("host x1 - 1", 1), ("host - - 1", 1),
                ("host x  1", 2), ("host x -- 1", 2), ("host x A 1", 2), ("host x abcdefghi 1", 2), ("host x 1", 2),
                ("host x - 0", 3), ("host x - 100", 3), ("host x - 01", 3), ("host x - +1", 3), ("host x - -1", 3),
                ("host x - 1.", 3), ("host x - " + "1" * 19000, 3), ("host x - ", 3), ("gate a - 5 ", 4),
                ("gate a - 5 one", 4), ("gate a - 5 one/any ", 5), ("gate a - 5 one/any turn", 5),
                ("gate a - 5 one/any turns turns", 6), ("gate a - 5 one/any rests", 6), ("gate a - 5 one/any rests 1", 6),
                ("gate a - 5 one/any turns rests", 7), ("gate a - 5 one/any turns rests 2 x", 8),
                ("gate a - 5 one/any rests " + "2" * 9000, 6), ("gate A - 500 no/no", 1), ("x" * 20000, 0)):
            self.assert_raises(InvalidText, {"line": 0, "word": word}, World.read, text)
            self.assert_raises(InvalidText, {"line": 1, "word": word}, World.read, "host q - 77\n" + text)

    def test_empty_lines(self):
        self.assert_raises(InvalidText, {"line": 0, "word": 0}, World.read, "\n")
        self.assert_raises(InvalidText, {"line": 1, "word": 0}, World.read, "host x - 1\n")
        self.assert_raises(InvalidText, {"line": 0, "word": 0}, World.read, "\nhost x - 1")
        self.assert_raises(InvalidText, {"line": 1, "word": 0}, World.read, "host x - 1\n\nhost y - 2")

    def test_the_form_of_all_lines_is_looked_at_first(self):
        self.assert_raises(InvalidText, {"line": 1, "word": 0}, World.read, "host x q 1\nbad")
        self.assert_raises(NoRealm, {"index": 0}, World.read, "host x q 1\nhost y - 1")
        self.assert_raises(Taken, {"index": 1}, World.read, "host x - 1\nhost y - 1")
        self.assert_raises(InvalidText, {"line": 0, "word": 3}, World.read, "host x - 0\nbad")

    def test_what_world_raises(self):
        text = "\n".join(["gate a - 1 one/any", "gate b a 1 one/any", "gate c b 1 one/any"])
        self.assert_raises(TooDeep, {"index": 3}, World.read, text + "\ngate d c 1 one/any")
        self.assert_raises(TooMany, {"limit": 6}, World.read, str(World(*SIX_GATES)) + "\ngate g - 7 one/any")
        self.assert_raises(TooMany, {"limit": 8}, World.read, str(World(*EIGHT_HOSTS)) + "\nhost a - 7")


if __name__ == "__main__":
    unittest.main()
