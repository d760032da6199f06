"""Bounds and reasons ([19])."""

import inspect
import random
import unittest

from meetbehind.closure import Closure
from meetbehind.errors import Heard, NoStation
from meetbehind.kinds import Kind
from meetbehind.late import late, reasons
from meetbehind.latecheck import shows_late
from meetbehind.names import show_name
from meetbehind.packets import walk
from meetbehind.worlds import World
from tests.model import NameModel, random_world
from tests.samples import (A1, A7, B1, B5, changed, Checks, CHAIN, DEEP, INNER, ONE, SIX, some_changed, STRICT, values_but)

NEVER = (None, ((1, A1), (1, B1), (2, B5)))
WORLDS = (ONE, STRICT, INNER, CHAIN, DEEP, SIX, World(("host", "x", "", 1), ("host", "y", "", 2)))


def pairs(world):
    return [(x, y) for x in world.hosts for y in world.hosts]


def sorted_rows(closure, number):
    rows = [(closure.told_in(name), name) for name in closure.names]
    rows = [row for row in rows if number is None or row[0] < number]
    return tuple(sorted(rows, key=lambda row: (row[0], show_name(row[1]))))


class LateTest(Checks, unittest.TestCase):

    def test_the_example(self):
        self.assert_same(late(STRICT, "x", "y"), NEVER)
        self.assert_same(late(world=STRICT, x="x", y="y", speakers=None), NEVER)

    def test_a_round(self):
        self.assert_same(late(ONE, "x", "y"), (3, ((1, A1), (1, B1), (2, B5))))
        self.assert_same(late(ONE, "y", "x"), (2, ((1, A1), (1, B1))))
        self.assert_same(late(ONE, "x", "p"), (1, ()))
        self.assert_same(late(ONE, "x", "x"), (1, ()))

    def test_never_lists_all_that_is_told(self):
        self.assert_same(late(ONE, "p", "p", speakers=["x"]), (None, ()))
        self.assert_same(late(ONE, "x", "y", speakers=()), (None, ()))
        self.assert_same(late(STRICT, "x", "y", speakers=("x", "p")), (None, ((1, A1),)))

    def test_all_worlds(self):
        for world in WORLDS:
            for speakers in (None, world.hosts[1:]):
                closure = Closure(world, speakers=speakers)
                for x, y in pairs(world):
                    number = closure.first(x, y)
                    self.assert_same(late(world, x, y, speakers=speakers), (number, sorted_rows(closure, number)))

    def test_speakers(self):
        for speakers in (["y", "x", "p", "x"], {"x", "y", "p"}, ("p", "x", "y"), None):
            self.assert_same(late(STRICT, "x", "y", speakers=speakers), NEVER)

    def test_wrong_hosts_in_their_order(self):
        for value in values_but(["x", "y", "p"]):
            for ask in (late, lambda *given, **named: list(reasons(*given, **named))):
                self.assert_raises(NoStation, {"name": value}, ask, STRICT, value, "x")
                self.assert_raises(NoStation, {"name": value}, ask, STRICT, "x", value)
                self.assert_raises(NoStation, {"name": value}, ask, STRICT, "x", "y", speakers=("x", value))
                self.assert_raises(NoStation, {"name": value}, ask, STRICT, value, None, speakers=["q"])
                self.assert_raises(NoStation, {"name": value}, ask, STRICT, "x", value, speakers=["q"])


class ReasonsTest(Checks, unittest.TestCase):

    def test_the_example(self):
        self.assertEqual([row[1:] for row in reasons(STRICT, "x", "y") if row[0][0] == "lent"],
                         [("unturned", "a"), ("barred", "b"), ("barred", "b")])
        self.assert_same(list(reasons(STRICT, "x", "y")), [
            (("blind", 5), "unturned", "a"), (("blind", 7), "closed", "b"), (A1, "unturned", "a"), (B1, "barred", "b"),
            (B5, "barred", "b")])

    def test_it_is_a_generator(self):
        self.assertTrue(inspect.isgenerator(reasons(STRICT, "x", "y")))
        told = reasons(world=STRICT, x="x", y="y", speakers=None)
        self.assert_same(next(told), (("blind", 5), "unturned", "a"))

    def test_what_reaches_another_host_is_no_reason(self):
        # the packets of x to 1 and to 10 are delivered, to p and to x
        self.assertNotIn(("own", 1), [row[0] for row in reasons(STRICT, "x", "y")])
        self.assertNotIn(("own", 10), [row[0] for row in reasons(STRICT, "x", "y")])

    def test_each_word(self):
        world = World(("gate", "a", "", 5, Kind("one", "any")), ("gate", "b", "", 7, Kind("one", "both")),
                      ("gate", "c", "a", 9, Kind("one", "any")), ("host", "x", "a", 10), ("host", "y", "b", 11),
                      ("host", "p", "", 2), ("host", "h", "a", 7))
        words = {show_name(row[0]): row[1:] for row in reasons(world, "x", "y")}
        self.assertEqual(words, {"5?": ("unturned", "a"), "7?": ("port", "h"), "9?": ("closed", "c"), "11": ("nowhere", ""),
                                 "a(10)": ("unturned", "a"), "a(7)": ("unturned", "a"), "b(11)": ("port", "h")})

    def test_a_host_that_does_not_speak_has_none(self):
        self.assertEqual(list(reasons(ONE, "x", "y", speakers=["y", "p"])), [])
        self.assertEqual(list(reasons(ONE, "x", "x", speakers=())), [])
        names = [row[0] for row in reasons(ONE, "x", "y", speakers=("x",))]
        self.assertEqual(names, [("blind", 5), ("blind", 7)])

    def test_heard(self):
        for x, y, number in (("x", "y", 3), ("y", "x", 2), ("x", "x", 1), ("x", "p", 1)):
            self.assert_raises(Heard, {"number": number}, next, reasons(ONE, x, y))
        self.assert_raises(NoStation, {"name": "q"}, next, reasons(ONE, "x", "y", speakers=["q"]))

    def check(self, world, speakers=None):
        closure = Closure(world, speakers=speakers)
        names = closure.known(closure.rounds + 2)
        sends = [(host, name) for host in closure.speakers for name in names]
        for x, y in pairs(world):
            if closure.heard(x, y):
                self.assert_raises(Heard, {"number": closure.first(x, y)}, next, reasons(world, x, y, speakers=speakers))
                continue
            expected = []
            for name in names if x in closure.speakers else ():
                result = walk(world, sends, x, name)
                if result[0] == "lost":
                    expected.append((name,) + result[1:])
            self.assert_same(list(reasons(world, x, y, speakers=speakers)), expected)

    def test_all_sends_of_the_closure(self):
        for world in WORLDS:
            self.check(world)
            self.check(world, world.hosts[:-1])
        for seed in range(60):
            rng = random.Random(seed)
            world = random_world(rng, gates=4, hosts=4, last=10)
            self.check(world, [host for host in world.hosts if rng.random() < 0.8])


class ShowsLateTest(Checks, unittest.TestCase):

    def assert_bound(self, thing, x="x", y="y", world=ONE, speakers=None):
        self.assertIs(shows_late(world, x, y, thing, speakers=speakers), True, thing)

    def assert_no_bound(self, thing, x="x", y="y", world=ONE, speakers=None):
        self.assertIs(shows_late(world, x, y, thing, speakers=speakers), False, thing)

    def test_never(self):
        self.assert_bound(NEVER, world=STRICT)
        self.assertIs(shows_late(world=STRICT, x="x", y="y", thing=NEVER, speakers=None), True)
        self.assert_no_bound(NEVER)
        self.assert_no_bound(NEVER, "y", "x", world=STRICT)
        self.assert_no_bound(NEVER, "x", "p", world=STRICT)

    def test_a_round(self):
        rows = ((1, A1), (1, B1), (2, B5))
        self.assert_bound((3, rows))
        self.assert_bound((2, rows))
        self.assert_bound((1, rows))
        self.assert_no_bound((4, rows))
        self.assert_no_bound((4, rows + ((3, A7),)))
        self.assert_bound((3, rows + ((3, A7),)))
        self.assert_bound((2, ((1, A1), (1, B1))), "y", "x")
        self.assert_no_bound((3, ((1, A1), (1, B1), (2, B5))), "y", "x")

    def test_the_bound_of_round_one_is_always_right(self):
        for world in WORLDS:
            for x, y in pairs(world):
                self.assert_bound((1, ()), x, y, world=world)
                self.assert_bound((1, ()), x, y, world=world, speakers=())
                if Closure(world).first(x, y) == 1:
                    self.assert_no_bound((2, ()), x, y, world=world)

    def test_each_name_that_is_seen_before_must_be_listed(self):
        rows = NEVER[1]
        for at in range(3):
            self.assert_no_bound((None, rows[:at] + rows[at + 1:]), world=STRICT)
        self.assert_no_bound((2, ((1, A1),)))
        self.assert_bound((2, ((1, A1), (1, B1))))
        self.assert_no_bound((3, ((1, A1), (1, B1))))

    def test_a_name_must_be_listed_early_enough(self):
        self.assert_no_bound((3, ((2, A1), (1, B1), (2, B5))))
        self.assert_no_bound((None, ((1, A1), (1, B1), (3, B5))), world=STRICT)
        # too early is right, as long as nothing more follows from it
        self.assert_bound((None, ((1, A1), (1, B1), (1, B5))), world=STRICT)

    def test_rows_in_any_order(self):
        self.assert_bound((None, NEVER[1][::-1]), world=STRICT)
        self.assert_bound((3, ((2, B5), (1, A1), (1, B1))))

    def test_a_name_that_is_listed_twice(self):
        self.assert_no_bound((None, NEVER[1] + ((1, A1),)), world=STRICT)
        self.assert_no_bound((None, NEVER[1] + ((2, B5),)), world=STRICT)
        self.assert_no_bound((1, ((1, A1), (1, A1))))
        self.assert_no_bound((1, ((1, A1), (2, A1))))

    def test_names_that_no_packet_can_show(self):
        # x never goes out through a to the address 5, but the name is taken to have its entry
        name = ("lent", "a", ("own", 10), 5)
        self.assert_bound((2, ((1, A1), (1, B1), (1, name))))
        self.assert_no_bound((None, NEVER[1] + ((1, name),)), "y", "x", world=STRICT)
        silent = ("x", "y")
        self.assert_bound((None, ()), "y", "x", speakers=silent)
        self.assert_no_bound((None, ((1, name),)), "y", "x", speakers=silent)
        self.assert_bound((2, ((1, name),)), "y", "x", speakers=silent)
        self.assert_bound((None, ((1, ("lent", "b", ("own", 10), 7)),)), speakers=silent)

    def test_names_that_are_told_behind_the_round_mean_nothing(self):
        self.assert_bound((3, ((1, A1), (1, B1), (2, B5), (3, ("lent", "a", ("own", 10), 5)))))
        self.assert_bound((3, ((1, A1), (1, B1), (2, B5), (10 ** 59, ("lent", "a", ("own", 10), 5)))))

    def test_hosts_that_do_not_speak(self):
        self.assert_bound((None, ()), speakers=("x", "y"))
        self.assert_no_bound((None, ()), speakers=("x", "p"))
        self.assert_bound((None, ((1, A1),)), speakers=("x", "p"))
        self.assert_bound((None, ()), "x", "x", speakers=["y"])
        self.assert_no_bound((None, ()), "x", "p", speakers=["x"])
        self.assert_no_bound((2, ()), "x", "p", speakers=["x"])
        # y does not open b, although a packet of y would
        rows = ((1, A1), (1, B1), (2, B5))
        self.assert_bound((None, rows), speakers=("x", "p"))
        self.assert_no_bound((None, rows), speakers=("x", "p", "y"))

    def test_a_source_that_is_not_plain_is_never_let_in_by_both(self):
        rows = ((1, A1), (1, A7), (1, B1), (1, B5))
        self.assert_bound((None, rows), world=STRICT)
        self.assert_no_bound((None, rows))
        plain = STRICT.with_kind("a", Kind("one", "any"))
        name = ("lent", "a", ("own", 10), None)
        shown = ("lent", "b", ("own", 10), name)
        self.assert_no_bound((None, ((1, name), (1, B1), (2, shown))), world=plain)
        self.assert_bound((3, ((1, name), (1, B1), (2, shown))), world=plain)

    def test_the_round_from_which_an_entry_is_open(self):
        # b is opened for the address 5 by what y sends in round 1 already, to a blind name
        self.assert_no_bound((3, ((1, A1), (1, B1), (1, B5))))
        self.assert_bound((2, ((1, A1), (1, B1), (1, B5))))
        world = ONE.with_kind("a", Kind("one", "any")).with_kind("b", Kind("one", "both"))
        name, other = ("lent", "a", ("own", 10), None), ("lent", "b", ("own", 10), None)
        # y sends to the name in round 2, so what x sends comes in in round 3
        self.assert_bound((3, ((1, name), (1, other))), world=world)
        self.assert_no_bound((4, ((1, name), (1, other))), world=world)
        self.assert_bound((1, ((2, name), (1, other))), world=world)
        self.assert_no_bound((2, ((2, name), (1, other))), world=world)

    def test_any_value(self):
        for value in values_but([(), None, 1]):
            for thing in (value, (None, value), (1, value), (None, NEVER[1] + (value,)), (None, ((1, value),) + NEVER[1]),
                          (None, ((value, A1),) + NEVER[1][1:]), NEVER + (value,), (value,) + NEVER):
                self.assertIs(shows_late(STRICT, "x", "y", thing), False, thing)
        for value in values_but([None, 1, 2, 5, 10, 99, 100, 10 ** 59]):
            self.assertIs(shows_late(STRICT, "x", "y", (value, NEVER[1])), False, value)
            self.assertIs(shows_late(STRICT, "x", "y", (value, ())), False, value)
        for value in ((), (None,), (None, ()), (None, (), ()), [None, ()], (None, []), (None, [1, A1]), (None, ((1, A1, 1),))):
            self.assertIs(shows_late(STRICT, "x", "y", value), False, value)

    def test_names_that_are_not_lent(self):
        for name in (("own", 10), ("own", 1), ("blind", 5), ("lent", "a", ("own", 10), None), ("lent", "c", ("own", 10), 5)):
            self.assert_no_bound((1, ((1, name),)))
            self.assert_no_bound((None, ((1, name),) + NEVER[1]), world=STRICT)

    def test_wrong_hosts_in_their_order(self):
        for value in values_but(["x", "y", "p"]):
            self.assert_raises(NoStation, {"name": value}, shows_late, ONE, value, "x", NEVER)
            self.assert_raises(NoStation, {"name": value}, shows_late, ONE, "x", value, NEVER)
            self.assert_raises(NoStation, {"name": value}, shows_late, ONE, "x", "y", NEVER, speakers=("x", value))
            self.assert_raises(NoStation, {"name": value}, shows_late, ONE, value, None, None, speakers=["q"])
            self.assert_raises(NoStation, {"name": value}, shows_late, ONE, "x", value, None, speakers=["q"])


class ManyWorldsTest(Checks, unittest.TestCase):

    def check(self, world, rng, speakers=None, many=10):
        model = NameModel(world, speakers)
        for x, y in pairs(world):
            bound = late(world, x, y, speakers=speakers)
            self.assertIs(shows_late(world, x, y, bound, speakers=speakers), True)
            for thing in some_changed(bound, rng, many):
                self.assertIs(shows_late(world, x, y, thing, speakers=speakers), model.shows_bound(x, y, thing),
                              (str(world), x, y, thing))
            self.assert_later_rounds_are_refused(world, x, y, bound, speakers)

    def assert_later_rounds_are_refused(self, world, x, y, bound, speakers):
        """A bound for a later round, or never, is refused where a packet arrives, whatever of the closure it lists."""
        if bound[0] is None:
            return
        closure = Closure(world, speakers=speakers)
        for number in (bound[0] + 1, bound[0] + 2, None):
            for rows in (bound[1], sorted_rows(closure, number), sorted_rows(closure, None)):
                self.assertIs(shows_late(world, x, y, (number, rows), speakers=speakers), False)

    def test_bounds_of_late_in_worlds_of_the_document(self):
        for at, world in enumerate(WORLDS):
            self.check(world, random.Random(at))

    def test_bounds_of_late_in_random_worlds(self):
        for seed in range(80):
            rng = random.Random(seed)
            world = random_world(rng, gates=4, hosts=4, last=12)
            self.check(world, rng)
            self.check(world, rng, [host for host in world.hosts if rng.random() < 0.7])

    def test_each_changed_part_of_a_bound(self):
        model = NameModel(STRICT)
        for thing in changed(NEVER):
            self.assertIs(shows_late(STRICT, "x", "y", thing), model.shows_bound("x", "y", thing), thing)
        model = NameModel(INNER)
        for thing in changed(late(INNER, "y", "x")):
            self.assertIs(shows_late(INNER, "y", "x", thing), model.shows_bound("y", "x", thing), thing)

    def test_names_of_one_world_listed_in_another_one(self):
        for seed in range(150):
            rng = random.Random(seed)
            world = random_world(rng, gates=3, hosts=4, last=9)
            model = NameModel(world)
            looser = world
            for gate in world.gates:
                looser = looser.with_kind(gate, Kind(world.kind(gate).lends, "any", turns=True))
            names = [name for name in Closure(looser).names if rng.random() < 0.9]
            x, y = rng.choice(world.hosts), rng.choice(world.hosts)
            for number in (None, 1, 2, 3, 4):
                thing = (number, tuple((rng.randint(1, 3), name) for name in names))
                self.assertIs(shows_late(world, x, y, thing), model.shows_bound(x, y, thing), (str(world), x, y, thing))


if __name__ == "__main__":
    unittest.main()
