"""Names ([9], [10], [16])."""

import random
import unittest

from meetbehind.errors import InvalidName, InvalidText, NoStation
from meetbehind.kinds import Kind
from meetbehind.names import (address_of, depth, fold, is_name, is_plain, owner, read_name, show_name, sources)
from meetbehind.worlds import World
from tests.model import Map, NameModel, random_world, text_of
from tests.samples import A1, A7, any_values, B1, B5, Checks, CHAIN, DEEP, INNER, ONE, SIX, values_but

RIGHT_IN_ONE = [("own", 10), ("own", 1), ("blind", 5), ("blind", 7), A1, B1, A7, B5, ("lent", "a", ("own", 10), 5),
                ("lent", "b", ("own", 10), ("own", 10))]
# c lends by "both", b by "far", a by "one"
C_OWN = ("lent", "c", ("own", 10), ("own", 10))
B_C = ("lent", "b", C_OWN, 10)
A_B_C = ("lent", "a", B_C, None)
B_V = ("lent", "b", ("own", 5), 10)
A_B_V = ("lent", "a", B_V, None)


class IsNameTest(Checks, unittest.TestCase):

    def test_names_of_one(self):
        for name in RIGHT_IN_ONE:
            self.assertIs(is_name(ONE, name), True, name)
        self.assertIs(is_name(world=ONE, thing=("own", 10)), True)

    def test_any_value(self):
        for value in values_but(RIGHT_IN_ONE):
            self.assertIs(is_name(ONE, value), False, value)
            self.assertIs(is_name(World(), value), False, value)

    def test_values_that_look_right(self):
        for value in (
                ("Lent", "a", ("own", 10), 5), ("own", "a", ("own", 10), 5), (None, "a", ("own", 10), 5),
                ("own", 5), ("own", 7), ("own", 2), ("blind", 10), ("blind", 1), ("own", "10"), ("own",), ("own", 10, 1),
                ("Own", 10), ("lent", "a", ("own", 10)), ("lent", "a", ("own", 10), ("own", 1), 1),
                ("lent", "a", ("own", 1), ("own", 1)), ("lent", "a", ("own", 5), 5), ("lent", "a", ("blind", 5), 5),
                ("lent", "x", ("own", 10), 5), ("lent", "c", ("own", 10), 5), ("lent", "", ("own", 1), 5),
                ("lent", "a", ("own", 10), None), ("lent", "a", ("own", 10), 10), ("lent", "a", ("own", 10), 1),
                ("lent", "a", ("own", 10), ("blind", 5)), ("lent", "a", ("own", 10), A1), ("lent", "a", ("own", 10), B5),
                ("lent", "a", A1, 5), ("lent", "a", B1, 5), ("lent", "a", ("own", 10), ["own", 1]),
                ("lent", "a", ["own", 10], 5), ["lent", "a", ("own", 10), 5], ("lent", "a", ("own", True), 5),
                ("lent", "a", ("own", 10), True), ("lent", "a", ("own", 10), ("own", True)), ("own", True),
                ("lent", "a", ("own", 10), ""), ("lent", "a", ("own", 10), ()), ("lent", "a", (), 5),
                ("lent", "a", None, 5), ("lent", ["a"], ("own", 10), 5), ("lent", None, ("own", 10), 5),
                (None, 10), ((), ()), ("lent", {"a"}, {"b": 1}, set())):
            self.assertIs(is_name(ONE, value), False, value)

    def test_each_kind_of_key(self):
        for lends, right in (("one", [None]), ("far", [1, 5, 7, 10]),
                             ("both", [5, 7, ("own", 1), ("own", 10), ("lent", "b", ("own", 10), None)])):
            world = ONE.with_kind("a", Kind(lends, "any")).with_kind("b", Kind("one", "any"))
            for key in (None, 1, 2, 5, 7, 10, True, 0, 99, ("own", 1), ("own", 10), ("blind", 5), "5",
                        ("lent", "b", ("own", 10), None), ("lent", "b", ("own", 10), 5)):
                expected = any(key == one and key.__class__ == one.__class__ for one in right)
                self.assertIs(is_name(world, ("lent", "a", ("own", 10), key)), expected, (lends, key))

    def test_names_within_names(self):
        for name in (C_OWN, B_C, A_B_C, B_V, A_B_V, ("lent", "c", ("own", 10), A_B_V), ("lent", "c", ("own", 10), B_V)):
            self.assertIs(is_name(DEEP, name), True, name)
        for name in (("lent", "a", C_OWN, None), ("lent", "b", B_C, 10), ("lent", "c", B_C, 5),
                     ("lent", "a", ("own", 10), None), ("lent", "b", ("own", 10), 10), ("lent", "c", ("own", 5), 5),
                     ("lent", "c", ("own", 10), A_B_C), ("lent", "a", ("lent", "b", C_OWN, 99), None),
                     ("lent", "a", ("lent", "b", ("lent", "c", ("own", 10), 99), 10), None)):
            self.assertIs(is_name(DEEP, name), False, name)

    def test_an_inner_own_name_needs_a_host_in_this_realm(self):
        self.assertIs(is_name(DEEP, ("lent", "b", ("own", 10), 10)), False)
        self.assertIs(is_name(DEEP, ("lent", "a", ("own", 7), None)), True)
        # in the realm a the address 6 is that of the gate b
        self.assertIs(is_name(DEEP.with_part(("host", "s", "", 6)), ("lent", "a", ("own", 6), None)), False)


class LookTest(Checks, unittest.TestCase):

    def test_address_of(self):
        self.assert_same([address_of(ONE, name) for name in RIGHT_IN_ONE], [10, 1, 5, 7, 5, 7, 5, 7, 5, 7])
        self.assert_same(address_of(world=DEEP, name=A_B_C), 5)

    def test_is_plain(self):
        self.assertIs(is_plain(ONE, ("own", 10)), True)
        self.assertIs(is_plain(ONE, ("blind", 5)), False)
        self.assertIs(is_plain(ONE, A1), False)
        self.assertIs(is_plain(DEEP, B_V), True)
        self.assertIs(is_plain(DEEP, A_B_V), True)
        self.assertIs(is_plain(DEEP, B_C), False)
        self.assertIs(is_plain(world=DEEP, name=A_B_C), False)

    def test_owner(self):
        self.assertEqual([owner(ONE, A1), owner(ONE, B5)], ["x", "y"])
        self.assertEqual([owner(DEEP, name) for name in (C_OWN, B_C, A_B_C, B_V, A_B_V)], ["w", "w", "w", "v", "v"])
        self.assertIsNone(owner(world=ONE, name=("own", 10)))
        self.assertIsNone(owner(ONE, ("blind", 5)))

    def test_depth(self):
        self.assert_same([depth(ONE, ("own", 1)), depth(ONE, ("blind", 5)), depth(ONE, A1)], [0, 0, 1])
        self.assert_same([depth(DEEP, name) for name in (C_OWN, B_C, A_B_C, A_B_V)], [1, 2, 3, 2])
        self.assert_same(depth(world=DEEP, name=("lent", "c", ("own", 10), A_B_V)), 1)

    def test_fold(self):
        self.assertEqual(fold(ONE, "b", A1), 5)
        self.assertEqual(fold(ONE, "a", ("blind", 7)), 7)
        self.assertEqual(fold(ONE, "a", ("own", 1)), ("own", 1))
        self.assertEqual(fold(world=DEEP, gate="c", name=A_B_V), A_B_V)
        self.assertEqual(fold(DEEP, "c", A_B_C), 5)
        self.assertEqual(fold(DEEP, "b", A_B_C), 5)
        self.assertIsNone(fold(DEEP, "a", A_B_C))

    def test_sources(self):
        self.assert_same(sources(ONE, "y", A1), (("own", 10), B5))
        self.assert_same(sources(world=ONE, host="x", name=("own", 10)), (("own", 10),))
        self.assert_same(sources(ONE, "p", A1), (("own", 1),))

    def test_sources_where_a_packet_turns(self):
        # w to 6 turns at b, which does not turn; to 7 at c; u to 5 at a, which turns
        self.assert_same(sources(DEEP, "w", ("blind", 6)), (("own", 10), ("lent", "c", ("own", 10), 6)))
        self.assert_same(sources(DEEP, "w", ("blind", 7)), (("own", 10),))
        self.assert_same(sources(DEEP, "u", ("blind", 5)), (("own", 7), ("lent", "a", ("own", 7), None)))
        self.assert_same(sources(DEEP, "u", A_B_C), (("own", 7), ("lent", "a", ("own", 7), None)))

    def test_sources_of_a_packet_that_goes_nowhere(self):
        world = DEEP.with_part(("host", "s", "b", 98))
        got = sources(world, "w", ("own", 7))
        self.assert_same(got, (("own", 10),))
        world = World(("gate", "a", "", 5, Kind("one", "any")), ("gate", "b", "a", 6, Kind("far", "far")),
                      ("gate", "d", "", 9, Kind("one", "any")), ("host", "x", "b", 10), ("host", "z", "d", 77))
        inner = ("lent", "b", ("own", 10), 77)
        self.assert_same(sources(world, "x", ("own", 77)), (("own", 10), inner, ("lent", "a", inner, None)))
        self.assert_same(sources(world, "z", ("own", 10)), (("own", 77), ("lent", "d", ("own", 77), None)))

    def test_wrong_names(self):
        for value in values_but(RIGHT_IN_ONE) + [("own", 5), ("lent", "a", ("own", 10), None)]:
            for look in (address_of, is_plain, owner, depth):
                self.assert_raises(InvalidName, {"name": value}, look, ONE, value)
            self.assert_raises(InvalidName, {"name": value}, fold, ONE, "a", value)
            self.assert_raises(InvalidName, {"name": value}, sources, ONE, "x", value)

    def test_wrong_gates_and_hosts(self):
        for value in values_but(["a", "b"]):
            self.assert_raises(NoStation, {"name": value}, fold, ONE, value, ("own", 10))
            self.assert_raises(NoStation, {"name": value}, fold, ONE, value, None)
        for value in values_but(["x", "y", "p"]):
            self.assert_raises(NoStation, {"name": value}, sources, ONE, value, ("own", 10))
            self.assert_raises(NoStation, {"name": value}, sources, ONE, value, None)

    def test_sources_of_random_worlds_against_the_model(self):
        for seed in range(60):
            world = random_world(random.Random(seed), gates=6, hosts=5)
            model = NameModel(world)
            for name in NameModel(world).closure()[0]:
                self.assertIs(is_name(world, name), True)
                self.assertEqual(is_plain(world, name), model.plain(name))
                for host in world.hosts:
                    self.assertEqual(sources(world, host, name), tuple(model.way(host, name)[0]))
                    for source in sources(world, host, name):
                        self.assertIs(is_name(world, source), True)
                        self.assertEqual(owner(world, source), None if source[0] == "own" else host)
                for gate in Map(world).kinds:
                    self.assertIn(fold(world, gate, name), (None, name, model.address(name)))


class TextTest(Checks, unittest.TestCase):

    def test_texts(self):
        for name, text in ((("own", 10), "10"), (("blind", 7), "7?"), (("lent", "a", ("own", 10), None), "a(10)"),
                           (("lent", "a", ("own", 10), 7), "a(10|7?)"),
                           (("lent", "a", ("own", 10), ("lent", "b", ("own", 10), None)), "a(10|b(10))"), (A1, "a(10|1)"),
                           (A_B_C, "a(b(c(10|10)|10?))"), (("lent", "c", ("own", 10), A_B_V), "c(10|a(b(5|10?)))"),
                           (("own", 99), "99"), (("lent", "abcdefgh", ("own", 1), 99), "abcdefgh(1|99?)")):
            self.assertEqual(show_name(name), text)
            self.assert_same(read_name(text), name)
        self.assertEqual(show_name(name=A1), "a(10|1)")
        self.assert_same(read_name(text="a(10|1)"), A1)

    def test_the_deepest_names(self):
        deepest = ("lent", "a", ("lent", "b", ("lent", "c", ("own", 10), None), None), None)
        self.assert_same(read_name("a(b(c(10)))"), deepest)
        self.assert_same(read_name("a(b(c(10|1)|2?)|a(b(c(10))))"), (
            "lent", "a", ("lent", "b", ("lent", "c", ("own", 10), ("own", 1)), 2), deepest))
        self.assert_same(read_name("q(1|a(b(c(10|5?)|6?)|7?))"), ("lent", "q", ("own", 1), (
            "lent", "a", ("lent", "b", ("lent", "c", ("own", 10), 5), 6), 7)))

    def test_wrong_texts(self):
        for text in (
                "", " ", "0", "01", "100", "1 ", " 1", "+1", "-1", "1??", "?", "0?", "07?", "100?", "7? ", "a", "a(", "a()",
                "a(10", "a(10))", "(10)", "a(10|)", "a(10|?)", "a(10|7??)", "a(10|07)", "a(7?)", "a(10|b(7?))", "A(10)",
                "a1(10)", "a (10)", "a(10) ", "a( 10)", "abcdefghi(10)", "a(10|1|2)", "a(10)(10)", "a(0)", "a(100)",
                "a(b(c(d(10))))", "a(10|b(c(d(e(10)))))", "a(10|b(10|1))", "a(10|b(10|c(10)))", "a(b(10|c(1|1)))",
                "a(10|b(c(10|1)))", "a(10\n)", "10\n", "a(10|1)\n", "()", "|", "a|1", "a(1)a(1)", "a" * 20000,
                "a(" * 10000, "1" * 20000, "a(" * 6000 + "1" + ")" * 6000, "a(1|" * 3000 + "1" + ")" * 3000):
            self.assert_raises(InvalidText, {"line": 0, "word": 0}, read_name, text)
        for value in any_values():
            if not isinstance(value, str):
                self.assert_raises(InvalidText, {"line": 0, "word": 0}, read_name, value)
        self.assert_same(read_name("10"), ("own", 10))

    def test_texts_of_random_worlds(self):
        for seed in range(60):
            world = random_world(random.Random(seed), gates=6, hosts=5)
            for name in NameModel(world).closure()[0]:
                self.assertEqual(show_name(name), text_of(name))
                self.assert_same(read_name(show_name(name)), name)

    def test_changed_texts(self):
        rng = random.Random(5)
        texts = [show_name(name) for world in (INNER, SIX, CHAIN, DEEP) for name in NameModel(world).closure()[0]]
        for _ in range(3000):
            text = list(rng.choice(texts))
            for _ in range(rng.randint(1, 2)):
                at = rng.randrange(len(text) + 1)
                text[at:at + rng.randint(0, 1)] = rng.choice(["", "(", ")", "|", "?", "a", "1", "0", "b"])
            changed = "".join(text)
            try:
                name = read_name(changed)
            except InvalidText:
                continue
            self.assertEqual(show_name(name), changed)


if __name__ == "__main__":
    unittest.main()
