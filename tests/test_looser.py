"""Worlds that are looser, joined, renamed and grown ([27])."""

import random
import unittest

from meetbehind.books import first_in
from meetbehind.closure import Closure
from meetbehind.errors import Clash, InvalidPart, InvalidTarget, Needed, NoRealm, NoStation, Taken, TooMany
from meetbehind.kinds import Kind
from meetbehind.looser import grown, joined, looser, renamed
from meetbehind.moves import book_after
from meetbehind.worlds import World
from tests.model import random_world
from tests.samples import any_values, BIG, Checks, CHAIN, DEEP, DRIFT, INNER, ONE, SIX, STRICT, TALKERS, values_but
from tests.test_leftovers import events

WORLDS = (ONE, STRICT, INNER, CHAIN, DEEP, SIX, DRIFT, TALKERS, BIG)
MIXED = World(*ONE.parts[1::-1], *ONE.parts[:1:-1])
# all addresses are distinct, so that each of them can be changed
APART = World(("gate", "a", "", 5, Kind("one", "far")), ("gate", "b", "a", 7, Kind("both", "far", rests=9)),
              ("host", "x", "b", 10), ("host", "y", "a", 11), ("host", "p", "", 1))
# several gates, within and beside one another; v and w have one address
SEVERAL = World(("gate", "a", "", 5, Kind("both", "far")), ("host", "p", "", 1), ("gate", "b", "", 7, Kind("far", "any")),
                ("gate", "c", "a", 20, Kind("one", "both", turns=True, rests=30)), ("gate", "d", "c", 21, Kind("far", "far")),
                ("host", "v", "a", 30), ("host", "w", "b", 30), ("host", "x", "c", 31), ("host", "y", "d", 32),
                ("host", "z", "b", 33))


def random_kind(rng, rests=(None,)):
    return Kind(rng.choice(Kind.LENDS), rng.choice(Kind.LETS), turns=rng.random() < 0.5, rests=rng.choice(rests))


class NotLater(Checks):

    def assert_not_later(self, one, two, hosts):
        """Asserts that nobody is heard by fewer hosts or later in the world two."""
        before, behind = Closure(one), Closure(two)
        for x in hosts:
            for y in hosts:
                if before.heard(x, y):
                    self.assertTrue(behind.heard(x, y), (str(one), str(two), x, y))
                    self.assertLessEqual(behind.first(x, y), before.first(x, y), (str(one), str(two), x, y))


class LooserTest(NotLater, unittest.TestCase):

    def test_itself_and_parts_in_another_order(self):
        for world in WORLDS:
            self.assertIs(looser(world, world), True)
            gates = [part for part in world.parts if part[0] == "gate"]
            hosts = [part for part in world.parts if part[0] == "host"]
            self.assertIs(looser(world, World(*gates, *hosts[::-1])), True)
        self.assertIs(looser(one=ONE, two=MIXED), True)
        self.assertIs(looser(World(), World()), True)

    def test_one_kind_stricter_in_one_part(self):
        world = ONE.with_kind("a", Kind("far", "far", rests=9))
        for kind, expected in ((Kind("far", "far", rests=9), True), (Kind("both", "far", rests=9), False),
                               (Kind("far", "both", rests=9), False), (Kind("far", "far", rests=8), False),
                               (Kind("far", "far", rests=10), True), (Kind("far", "far"), True),
                               (Kind("far", "far", turns=True, rests=9), True), (Kind("one", "far", rests=9), True),
                               (Kind("far", "any", rests=9), True), (Kind("one", "any", turns=True, rests=8), False),
                               (Kind("one", "both", turns=True), False), (Kind("both", "any", turns=True), False)):
            self.assertIs(looser(world, world.with_kind("a", kind)), expected, kind)
            self.assertIs(looser(MIXED.with_kind("a", world.kind("a")), world.with_kind("a", kind)), expected, kind)
        turning = ONE.with_kind("a", Kind("far", "far", turns=True))
        self.assertIs(looser(turning, ONE.with_kind("a", Kind("far", "far"))), False)

    def test_each_gate_counts(self):
        loose = ONE.with_kind("a", Kind("one", "any")).with_kind("b", Kind("both", "both"))
        self.assertIs(looser(ONE, loose), False)
        self.assertIs(looser(loose, ONE), False)
        self.assertIs(looser(STRICT, ONE), True)
        self.assertIs(looser(ONE, STRICT), False)

    def test_other_parts(self):
        for other in (ONE.without("p"), ONE.with_part(("host", "q", "", 2)), renamed(ONE, {"p": 2}), World(),
                      World(*ONE.parts[:4], ("host", "q", "", 1)), World(*ONE.parts[:4], ("host", "p", "a", 1)),
                      World(*ONE.parts[:4], ("gate", "p", "", 1, Kind("one", "any"))), INNER):
            self.assertIs(looser(ONE, other), False)
            self.assertIs(looser(other, ONE), False)

    def test_nobody_is_heard_by_fewer_hosts_or_later(self):
        for seed in range(120):
            rng = random.Random(seed)
            world = random_world(rng, gates=5, hosts=5, last=12)
            other = world
            for gate in world.gates:
                other = other.with_kind(gate, rng.choice((world.kind(gate), world.kind(gate) | random_kind(rng), random_kind(rng))))
            expected = all(world.kind(gate).within(other.kind(gate)) for gate in world.gates)
            self.assertIs(looser(world, other), expected)
            if expected:
                self.assert_not_later(world, other, world.hosts)


class JoinedTest(NotLater, unittest.TestCase):

    def test_the_example(self):
        self.assertEqual([Closure(CHAIN).first("y", "x"), Closure(joined(CHAIN, "m")).first("y", "x"),
                          str(joined(CHAIN, "m").kind("m")), joined(CHAIN, "m").address("m")], [3, None, "far/both", 5])

    def test_words(self):
        self.assertEqual(joined(world=CHAIN, gate="m").parts, (
            ("gate", "m", "", 5, Kind("far", "both")), ("gate", "b", "", 7, Kind("one", "both")),
            ("host", "x", "m", 10), ("host", "y", "b", 10), ("host", "p", "", 1)))

    def test_the_place_in_the_parts(self):
        kinds = (Kind("far", "any", turns=True, rests=7), Kind("one", "both", rests=30))
        world = World(("host", "p", "", 1), ("gate", "o", "", 2, Kind("one", "any")), ("host", "q", "o", 8),
                      ("gate", "n", "o", 5, kinds[0]), ("host", "r", "o", 9), ("gate", "m", "n", 3, kinds[1]),
                      ("host", "x", "m", 10))
        self.assertEqual(joined(world, "m").parts, world.parts[:3] + (
            ("gate", "m", "o", 5, Kind("far", "both", rests=7)), world.parts[4]) + world.parts[6:])
        self.assertEqual(joined(world, "m").chain("x"), ("m", "o"))

    def test_gates_within_the_gate(self):
        world = World(("gate", "n", "", 5, Kind("far", "any")), ("gate", "m", "n", 3, Kind("one", "both")),
                      ("gate", "k", "m", 4, Kind("one", "any")), ("host", "y", "k", 12))
        self.assertEqual(joined(world, "m").parts, (("gate", "m", "", 5, Kind("far", "both")),) + world.parts[2:])
        self.assertEqual(joined(world, "k").parts, (world.parts[0], ("gate", "k", "n", 3, Kind("one", "both")), world.parts[3]))
        self.assertEqual(joined(joined(world, "m"), "k"), joined(joined(world, "k"), "k"))

    def test_what_is_no_gate(self):
        for value in values_but(["a", "b"]):
            self.assert_raises(NoStation, {"name": value}, joined, ONE, value)
        for value in values_but(["m", "n", "b"]):
            self.assert_raises(NoStation, {"name": value}, joined, CHAIN, value)

    def test_a_gate_in_the_open_realm(self):
        for world, gates in ((ONE, "ab"), (CHAIN, "nb"), (World(("gate", "a", "", 5, Kind("one", "any"))), "a")):
            for gate in gates:
                self.assert_raises(Needed, {"name": gate}, joined, world, gate)

    def test_a_station_beside_it(self):
        for part in (("host", "h", "n", 20), ("gate", "h", "n", 20, Kind("one", "any"))):
            self.assert_raises(Needed, {"name": "m"}, joined, CHAIN.with_part(part), "m")
        # also where the address is taken
        self.assert_raises(Needed, {"name": "m"}, joined, CHAIN.with_part(("host", "h", "n", 20)).with_part(
            ("host", "q", "", 3)), "m")

    def test_an_address_that_is_taken(self):
        for part in (("host", "q", "", 3), ("host", "q", "m", 3), ("host", "q", "b", 3),
                     ("gate", "q", "", 3, Kind("one", "any")), ("gate", "q", "m", 3, Kind("one", "any"))):
            self.assert_raises(Clash, {"number": 3}, joined, CHAIN.with_part(part), "m")
        world = World(("gate", "n", "", 5, Kind("one", "any")), ("gate", "m", "n", 5, Kind("one", "any")))
        self.assert_raises(Clash, {"number": 5}, joined, world, "m")

    def test_nobody_is_heard_by_fewer_hosts_or_later_than_in_the_joined_world(self):
        many = less = 0
        for seed in range(400):
            rng = random.Random(seed)
            base = random_world(rng, gates=3, hosts=5, last=14)
            around = {name: base.chain(name) for name in base.gates}
            inner = [gate for gate in base.gates if len(around[gate]) < 2
                     and not any(len(chain) > 1 and gate in chain for chain in around.values())]
            if not inner:
                continue
            # a gate o comes around one of the gates, which gets an address of its own
            gate = rng.choice(inner)
            at = [part[1] for part in base.parts].index(gate)
            old = base.parts[at]
            parts = base.parts[:at] + (("gate", "o", old[2], old[3], random_kind(rng)),
                                       ("gate", gate, "o", 50, old[4])) + base.parts[at + 1:]
            world = World(*parts)
            other = joined(world, gate)
            self.assertEqual(other, base.with_kind(gate, old[4] & world.kind("o")))
            self.assert_not_later(other, world, world.hosts)
            many += 1
            less += sum(Closure(world).heard(x, y) for x in world.hosts for y in world.hosts) != sum(
                Closure(other).heard(x, y) for x in world.hosts for y in world.hosts)
        self.assertGreater(many, 100)
        self.assertGreater(less, 0)


class RenamedTest(Checks, unittest.TestCase):

    def test_new_addresses(self):
        self.assertEqual(renamed(APART, {"x": 20, "b": 99}).parts, (
            APART.parts[0], ("gate", "b", "a", 99, APART.kind("b")), ("host", "x", "b", 20)) + APART.parts[3:])
        self.assertEqual(renamed(world=ONE, table={"p": 99}).address("p"), 99)
        self.assertEqual(ONE.address("p"), 1)

    def test_an_empty_table_and_addresses_that_stay(self):
        self.assertEqual(renamed(APART, {}).parts, APART.parts)
        self.assertEqual(renamed(APART, {"x": 10, "a": 5, "p": 1}).parts, APART.parts)
        self.assertEqual(renamed(World(), {}), World())

    def test_the_table_stays_as_it_is(self):
        table = {"x": 20, "a": 21}
        renamed(APART, table)
        self.assertEqual(table, {"x": 20, "a": 21})

    def test_keys_that_are_no_stations(self):
        for value in any_values():
            hashable = isinstance(value, (str, int, type(None))) or value in ((), (1,), (1, 1), ("x",), ("own", 10))
            if hashable and value not in ("a", "b", "x", "y", "p"):
                self.assert_raises(NoStation, {"name": value}, renamed, APART, {value: 20})
                self.assert_raises(NoStation, {"name": value}, renamed, APART, {"x": None, value: 20})
        one = NoStation("q")
        self.assert_raises(NoStation, {"name": one}, renamed, APART, {one: 20})

    def test_the_first_in_the_order_of_the_texts_of_reprs(self):
        self.assert_raises(NoStation, {"name": 10}, renamed, APART, {2: 3, 10: 3, None: 3})
        self.assert_raises(NoStation, {"name": "c"}, renamed, APART, {"q": 3, "a": 0, "c": 4})
        self.assert_raises(NoStation, {"name": ""}, renamed, APART, {2: 3, "q": 1, "": 1})

    def test_addresses_that_are_none(self):
        for value in values_but([1, 2, 5, 10, 99]) + [0, 100, True, "20", (20,)]:
            self.assert_raises(InvalidTarget, {"target": value}, renamed, APART, {"x": value})
            self.assert_raises(InvalidTarget, {"target": value}, renamed, APART, {"y": 0, "x": value, "p": 1})

    def test_the_first_station_whose_address_is_none(self):
        self.assert_raises(InvalidTarget, {"target": 100}, renamed, APART, {"y": 0, "p": 20, "x": 100})
        self.assert_raises(InvalidTarget, {"target": None}, renamed, APART, {"y": 0, "b": None, "x": 100})

    def test_an_old_address_of_another_station(self):
        # x and y have one address
        self.assert_raises(Clash, {"number": 10}, renamed, ONE, {"x": 20})
        self.assert_raises(Clash, {"number": 10}, renamed, ONE, {"x": 20, "y": 21})
        self.assert_raises(Clash, {"number": 10}, renamed, ONE, {"y": 10})
        # the old one is asked before the new one
        self.assert_raises(Clash, {"number": 10}, renamed, ONE, {"y": 5})
        self.assertEqual(renamed(ONE, {"p": 20, "a": 21}).address("a"), 21)

    def test_a_new_address_of_another_station(self):
        for address in (5, 7, 11, 1):
            self.assert_raises(Clash, {"number": address}, renamed, APART, {"x": address})
        self.assert_raises(Clash, {"number": 5}, renamed, ONE, {"p": 5})

    def test_addresses_exchanged(self):
        # the new address is that of another station of the world
        self.assert_raises(Clash, {"number": 11}, renamed, APART, {"x": 11, "y": 10})
        self.assert_raises(Clash, {"number": 10}, renamed, APART, {"p": 10, "x": 30})

    def test_one_new_address_for_two(self):
        self.assert_raises(Clash, {"number": 20}, renamed, APART, {"x": 20, "y": 20})
        self.assert_raises(Clash, {"number": 20}, renamed, APART, {"x": 20, "a": 20, "y": 11})

    def test_several_faults_at_once(self):
        self.assert_raises(NoStation, {"name": "q"}, renamed, ONE, {"x": 0, "q": 0, "p": 5})
        self.assert_raises(InvalidTarget, {"target": 0}, renamed, ONE, {"x": 20, "y": 0, "p": 5})
        # the first station, ascending, counts, whichever fault it has
        self.assert_raises(Clash, {"number": 5}, renamed, ONE, {"p": 5, "x": 20})
        self.assert_raises(Clash, {"number": 10}, renamed, ONE, {"y": 5, "x": 20, "b": 30})
        self.assert_raises(Clash, {"number": 1}, renamed, ONE, {"y": 20, "b": 1})
        self.assert_raises(Clash, {"number": 20}, renamed, ONE, {"y": 21, "p": 20, "b": 20})

    def test_several_gates_and_hosts_of_which_some_get_new_addresses(self):
        table = {"c": 40, "z": 2, "a": 99, "y": 41}
        other = renamed(SEVERAL, table)
        self.assertEqual(other.parts, (
            ("gate", "a", "", 99, Kind("both", "far")), SEVERAL.parts[1], SEVERAL.parts[2],
            ("gate", "c", "a", 40, Kind("one", "both", turns=True, rests=30)), *SEVERAL.parts[4:8],
            ("host", "y", "d", 41), ("host", "z", "b", 2)))
        self.assertEqual([other.address(name) for name in ("a", "b", "c", "d", "p", "v", "w", "x", "y", "z")],
                         [99, 7, 40, 21, 1, 30, 30, 31, 41, 2])
        self.assertEqual([other.station("a", 40), other.station("a", 20), other.station("", 99), other.station("", 5)],
                         ["c", None, "a", None])
        self.assertEqual(table, {"c": 40, "z": 2, "a": 99, "y": 41})
        one, two = Closure(SEVERAL), Closure(other)
        for x in SEVERAL.hosts:
            for y in SEVERAL.hosts:
                self.assert_same(one.first(x, y), two.first(x, y))

    def test_several_gates_and_hosts_that_exchange_addresses(self):
        for one, two in (("x", "y"), ("a", "b"), ("a", "y"), ("c", "z"), ("d", "p")):
            table = {two: SEVERAL.address(one), one: SEVERAL.address(two)}
            # the new address of the first of both, ascending, is that of the other one
            clash = {"number": table[min(one, two)]}
            self.assert_raises(Clash, clash, renamed, SEVERAL, table)
            table["c" if one != "c" else "x"] = 40
            self.assert_raises(Clash, clash, renamed, SEVERAL, table)
        # three in a ring
        self.assert_raises(Clash, {"number": 31}, renamed, SEVERAL, {"z": 32, "y": 31, "x": 33, "p": 31})
        self.assert_raises(Clash, {"number": 30}, renamed, SEVERAL, {"v": 33, "z": 50})

    def test_several_gates_and_hosts_with_an_empty_table(self):
        for world in (SEVERAL, BIG, SIX):
            self.assertEqual(renamed(world, {}).parts, world.parts)
            self.assertEqual(renamed(world, {}), world)

    def test_rounds_are_the_same(self):
        many = 0
        for seed in range(80):
            rng = random.Random(seed)
            world = random_world(rng, gates=5, hosts=5, last=25)
            taken = [part[3] for part in world.parts]
            names = [part[1] for part in world.parts if taken.count(part[3]) == 1]
            free = [address for address in range(1, 100) if address not in taken]
            table = dict(zip(rng.sample(names, rng.randint(0, len(names))), rng.sample(free, len(names))))
            other = renamed(world, table)
            many += len(table)
            self.assertEqual([part[1] for part in other.parts], [part[1] for part in world.parts])
            one, two = Closure(world), Closure(other)
            for x in world.hosts:
                for y in world.hosts:
                    self.assert_same(one.first(x, y), two.first(x, y))
            for event in rng.sample(events(world), min(3, len(events(world)))):
                before, behind = book_after(world, event), book_after(other, event)
                for x in world.hosts:
                    for y in world.hosts:
                        self.assert_same(first_in(before, x, y), first_in(behind, x, y))
        self.assertGreater(many, 100)


class GrownTest(NotLater, unittest.TestCase):

    def test_words(self):
        self.assertEqual(grown(ONE, "q", "").parts, ONE.parts + (("host", "q", "", 2),))
        self.assertEqual(grown(world=APART, name="abcdefgh", realm="b").parts, APART.parts + (("host", "abcdefgh", "b", 2),))
        self.assertEqual(grown(World(), "x", "").parts, (("host", "x", "", 1),))
        # an address is free only if no station of any realm has it
        self.assertEqual(grown(World(("gate", "a", "", 2, Kind("one", "any")), ("host", "y", "a", 1)), "x", "").address("x"), 3)

    def test_names_that_are_taken(self):
        for name in ("a", "b", "x", "y", "p"):
            self.assert_raises(Taken, {"index": 5}, grown, ONE, name, "a")

    def test_names_that_are_none(self):
        for value in any_values():
            if not (isinstance(value, str) and value.isalpha() and value.islower() and len(value) < 9):
                self.assert_raises(InvalidPart, {"index": 5}, grown, ONE, value, "")
                self.assert_raises(InvalidPart, {"index": 5}, grown, ONE, value, None)

    def test_realms_that_are_none(self):
        for value in any_values():
            if isinstance(value, str) and value.isalpha() and value.islower() and len(value) < 9:
                if value not in ("a", "b"):
                    self.assert_raises(NoRealm, {"index": 5}, grown, ONE, "q", value)
                    self.assert_raises(NoRealm, {"index": 5}, grown, ONE, "x", value)
            elif value != "":
                self.assert_raises(InvalidPart, {"index": 5}, grown, ONE, "q", value)

    def test_a_ninth_host(self):
        self.assertEqual(len(SIX.hosts), 8)
        self.assert_raises(TooMany, {"limit": 8}, grown, SIX, "q", "")
        self.assert_raises(Taken, {"index": 14}, grown, SIX, "a", "")
        self.assert_raises(NoRealm, {"index": 14}, grown, SIX, "q", "zz")
        self.assertEqual(len(grown(SIX.without("h"), "q", "c").hosts), 8)

    def test_nobody_is_heard_by_fewer_hosts_or_later(self):
        for seed in range(100):
            rng = random.Random(seed)
            world = random_world(rng, gates=5, hosts=5, last=12)
            self.assert_not_later(world, grown(world, "helper", rng.choice(("",) + world.gates)), world.hosts)


if __name__ == "__main__":
    unittest.main()
