"""What becomes of one packet ([11], [17], [25])."""

import random
import unittest

from meetbehind.errors import InvalidName, NoStation
from meetbehind.kinds import Kind
from meetbehind.packets import walk
from meetbehind.worlds import World
from tests.model import NameModel, random_world
from tests.samples import A1, A7, B1, B5, Checks, CHAIN, DEEP, ONE, STRICT, values_but

X1, Y1, YA, XB = ("x", ("own", 1)), ("y", ("own", 1)), ("y", A1), ("x", B1)


class WalkTest(Checks, unittest.TestCase):

    def test_without_any_sends(self):
        self.assert_same(walk(ONE, (), "x", ("own", 1)), ("heard", "p", A1))
        self.assert_same(walk(ONE, (), "x", ("own", 10)), ("heard", "x", ("own", 10)))
        self.assert_same(walk(ONE, (), "p", ("own", 10)), ("lost", "nowhere", ""))
        self.assert_same(walk(ONE, (), "x", ("blind", 5)), ("lost", "unturned", "a"))
        self.assert_same(walk(ONE, (), "x", ("blind", 7)), ("lost", "closed", "b"))
        self.assert_same(walk(ONE, (), "y", A1), ("lost", "closed", "a"))
        world = ONE.with_part(("host", "z", "a", 7))
        self.assert_same(walk(world, (), "x", ("blind", 7)), ("lost", "port", "z"))
        self.assert_same(walk(world, (), "x", B1), ("lost", "port", "z"))

    def test_arguments_by_name(self):
        self.assert_same(walk(world=ONE, sends=[X1], host="y", name=A1, forgets=()), ("heard", "x", B5))

    def test_an_entry_is_there_if_it_was_made(self):
        self.assert_same(walk(ONE, (X1,), "y", A1), ("heard", "x", B5))
        self.assert_same(walk(ONE, (("x", ("own", 10)), ("p", ("own", 1)), Y1), "y", A1), ("lost", "closed", "a"))

    def test_far(self):
        self.assert_same(walk(ONE, (Y1,), "x", B1), ("lost", "barred", "b"))
        self.assert_same(walk(ONE, (Y1, X1, YA), "x", B1), ("lost", "barred", "b"))
        self.assert_same(walk(ONE, (YA,), "x", B5), ("heard", "y", A7))
        self.assert_same(walk(ONE, (("y", ("blind", 5)),), "x", B5), ("heard", "y", A7))
        self.assert_same(walk(ONE, (("y", ("blind", 7)),), "x", B5), ("lost", "closed", "b"))

    def test_both(self):
        self.assert_same(walk(STRICT, (YA, X1), "x", B5), ("lost", "barred", "b"))
        world = STRICT.with_kind("a", Kind("far", "any"))
        a7 = ("lent", "a", ("own", 10), 7)
        b_to_a7 = ("lent", "b", ("own", 10), a7)
        self.assert_same(walk(world, (("y", a7),), "x", b_to_a7), ("heard", "y", a7))
        self.assert_same(walk(world, (("y", ("lent", "a", ("own", 10), 1)),), "x", b_to_a7), ("lost", "closed", "b"))
        self.assert_same(walk(world, (("y", ("lent", "a", ("own", 10), 1)),), "x",
                              ("lent", "b", ("own", 10), ("lent", "a", ("own", 10), 1))), ("lost", "barred", "b"))

    def test_a_name_at_a_gate_other_than_its_own(self):
        world = World(("gate", "a", "", 5, Kind("one", "any")), ("gate", "b", "", 7, Kind("one", "any")),
                      ("gate", "c", "b", 5, Kind("one", "any")), ("host", "x", "a", 10), ("host", "y", "b", 10))
        self.assert_same(walk(world, (("x", ("blind", 7)),), "y", ("lent", "a", ("own", 10), None)),
                         ("lost", "closed", "c"))

    def test_the_packet_itself_makes_an_entry_but_opens_nothing(self):
        for lets, result in (("any", ("heard", "x", ("lent", "a", ("own", 10), None))), ("far", ("lost", "barred", "a"))):
            world = World(("gate", "a", "", 5, Kind("one", lets, turns=True)), ("host", "x", "a", 10))
            name = ("lent", "a", ("own", 10), None)
            self.assert_same(walk(world, (), "x", name), result)
            self.assert_same(walk(world, (("x", ("blind", 5)),), "x", name), ("heard", "x", name))
        world = world.with_kind("a", Kind("one", "both", turns=True))
        self.assert_same(walk(world, (("x", ("blind", 5)),), "x", name), ("lost", "barred", "a"))
        self.assert_same(walk(world, (("x", name),), "x", name), ("heard", "x", name))

    def test_a_gate_that_does_not_turn(self):
        name = ("lent", "a", ("own", 10), None)
        world = World(("gate", "a", "", 5, Kind("one", "any")), ("host", "x", "a", 10))
        self.assert_same(walk(world, (("x", name),), "x", name), ("lost", "unturned", "a"))

    def test_several_gates(self):
        name = ("lent", "n", ("lent", "m", ("own", 10), None), 1)
        b10 = ("lent", "b", ("own", 10), None)
        self.assert_same(walk(CHAIN, (("x", ("own", 1)), ("x", b10)), "y", name), ("heard", "x", b10))
        self.assert_same(walk(CHAIN, (("x", ("own", 1)),), "y", name), ("lost", "barred", "m"))
        self.assert_same(walk(CHAIN, (("x", b10),), "y", name), ("lost", "closed", "n"))
        self.assert_same(walk(CHAIN, (("x", ("blind", 3)),), "y", name), ("lost", "closed", "n"))

    def test_sends_in_each_form(self):
        for sends in ((X1, YA, X1), [YA, X1], {X1, YA}):
            self.assert_same(walk(ONE, sends, "x", B5), ("heard", "y", A7))

    def test_wrong_arguments(self):
        for value in values_but(["x", "y", "p"]):
            self.assert_raises(NoStation, {"name": value}, walk, ONE, (), value, ("own", 1))
            self.assert_raises(NoStation, {"name": value}, walk, ONE, (), value, None, forgets=("z",))
        for value in values_but([("own", 10), ("own", 1), ("blind", 5), ("blind", 7), A1, B5]):
            self.assert_raises(InvalidName, {"name": value}, walk, ONE, (), "x", value)
            self.assert_raises(InvalidName, {"name": value}, walk, ONE, (), "x", value, forgets=("z",))
        for value in values_but(["a", "b"]):
            self.assert_raises(NoStation, {"name": value}, walk, ONE, (), "x", A1, forgets=[value])


class ForgetsTest(Checks, unittest.TestCase):

    def test_a_gate_that_forgets_lets_nothing_in(self):
        self.assert_same(walk(ONE, (X1,), "y", A1, forgets=("a",)), ("lost", "closed", "a"))
        self.assert_same(walk(ONE, (X1,), "y", A1, forgets=["b"]), ("heard", "x", B5))
        self.assert_same(walk(ONE, (YA,), "x", B5, forgets={"b", "a"}), ("lost", "closed", "b"))
        self.assert_same(walk(ONE, (YA,), "x", B5, forgets=("a", "a")), ("heard", "y", A7))

    def test_also_where_a_packet_turns(self):
        world = World(("gate", "a", "", 5, Kind("one", "any", turns=True)), ("host", "x", "a", 10))
        name = ("lent", "a", ("own", 10), None)
        self.assert_same(walk(world, (("x", name),), "x", name, forgets=("a",)), ("lost", "closed", "a"))

    def test_a_name_in_which_it_occurs_is_not_plain(self):
        world = STRICT.with_kind("a", Kind("one", "any"))
        a10 = ("lent", "a", ("own", 10), None)
        exact, folded = ("lent", "b", ("own", 10), a10), ("lent", "b", ("own", 10), 5)
        sends = (("y", a10),)
        self.assert_same(walk(world, sends, "x", exact), ("heard", "y", a10))
        self.assert_same(walk(world, sends, "x", exact, forgets=("a",)), ("lost", "closed", "b"))
        self.assert_same(walk(world, sends, "x", folded), ("lost", "closed", "b"))
        self.assert_same(walk(world, sends, "x", folded, forgets=("a",)), ("lost", "barred", "b"))
        far = world.with_kind("b", Kind("both", "far"))
        self.assert_same(walk(far, sends, "x", folded, forgets=("a",)), ("heard", "y", a10))

    def test_an_inner_gate_that_forgets(self):
        name = ("lent", "n", ("lent", "m", ("own", 10), None), 1)
        sends = (("x", ("own", 1)), ("x", ("lent", "b", ("own", 10), None)))
        self.assert_same(walk(CHAIN, sends, "y", name, forgets=("m",)), ("lost", "closed", "m"))
        self.assert_same(walk(CHAIN, sends, "y", name, forgets=("n",)), ("lost", "closed", "n"))
        self.assert_same(walk(CHAIN, sends, "y", name, forgets=("b",)), ("lost", "barred", "m"))


class RandomTest(Checks, unittest.TestCase):

    def test_random_sends_against_the_model(self):
        for seed in range(120):
            rng = random.Random(seed)
            world = random_world(rng, gates=5, hosts=4)
            forgets = tuple(gate for gate in world.gates if rng.random() < 0.2)
            model = NameModel(world, forgets=forgets)
            names = sorted(NameModel(world).closure()[0], key=repr)
            pairs = [(host, name) for host in world.hosts for name in names]
            for _ in range(20):
                sends = rng.sample(pairs, rng.randint(0, min(25, len(pairs))))
                host, name = rng.choice(pairs)
                expected = model.walk(sends, host, name)
                for given in (sends, tuple(sends), set(sends)):
                    self.assert_same(walk(world, given, host, name, forgets=forgets), expected)

    def test_deep_world(self):
        name = ("lent", "a", ("lent", "b", ("lent", "c", ("own", 10), 5), 5), None)
        self.assert_same(walk(DEEP, (), "t", name), ("lost", "closed", "a"))


if __name__ == "__main__":
    unittest.main()
