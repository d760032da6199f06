"""Books of closures ([30])."""

import random
import unittest

from meetbehind.bookcheck import shows_book
from meetbehind.books import book, first_in
from meetbehind.closure import Closure
from meetbehind.errors import NoStation
from meetbehind.kinds import Kind
from meetbehind.names import show_name
from meetbehind.worlds import World
from tests.model import NameModel, random_world
from tests.samples import (A1, A7, any_values, B1, B5, BIG, changed, Checks, CHAIN, DEEP, INNER, ONE, same, SIX,
                           some_changed, STRICT, values_but)

WORLDS = (ONE, STRICT, INNER, CHAIN, DEEP, SIX, World(), World(("host", "x", "", 1), ("host", "y", "", 2)))
X, Y, P = ("own", 10), ("own", 10), ("own", 1)
ROWS = ((1, "p", P, "p", P), (1, "x", P, "p", A1), (1, "x", X, "x", X), (1, "y", P, "p", B1), (1, "y", Y, "y", Y),
        (2, "p", A1, "x", P), (2, "p", B1, "y", P), (2, "y", A1, "x", B5), (3, "x", B5, "y", A7), (4, "p", A7, "x", P),
        (4, "y", A7, "x", B5))
TOLD = ((1, A1), (1, B1), (2, B5), (3, A7))


class BookTest(Checks, unittest.TestCase):

    def test_of_one(self):
        self.assert_same(book(ONE), (TOLD, ROWS))
        self.assert_same(book(world=ONE, speakers=None), (TOLD, ROWS))

    def test_it_is_that_of_the_closure(self):
        for world in WORLDS + (BIG,):
            for speakers in (None, world.hosts[1:], ()):
                closure = Closure(world, speakers=speakers)
                told, rows = book(world, speakers=speakers)
                self.assert_same(rows, tuple(closure.arrivals()))
                self.assert_same(told, tuple((closure.told_in(name), name) for name in closure.names))
                self.assertEqual(list(told), sorted(told, key=lambda pair: (pair[0], show_name(pair[1]))))

    def test_speakers(self):
        expected = ((), ((1, "x", P, "p", A1), (1, "x", X, "x", X), (1, "y", P, "p", B1), (1, "y", Y, "y", Y)))
        for speakers in (("x", "y"), ["y", "x", "x"], {"x", "y"}):
            self.assert_same(book(ONE, speakers=speakers), expected)
        self.assert_same(book(ONE, speakers=()), ((), ()))
        self.assert_same(book(ONE, speakers=["p", "y", "x"]), book(ONE))

    def test_wrong_speakers(self):
        for value in values_but(["x", "y", "p"]):
            self.assert_raises(NoStation, {"name": value}, book, ONE, speakers=("x", value))
            self.assert_raises(NoStation, {"name": value}, shows_book, ONE, None, speakers=["y", value])
        self.assert_raises(NoStation, {"name": "b"}, book, ONE, speakers={"q", "b", "x"})


class FirstInTest(Checks, unittest.TestCase):

    def test_of_one(self):
        one = book(ONE)
        self.assert_same([first_in(one, "x", "y"), first_in(one, "y", "x"), first_in(one, "x", "x"),
                          first_in(one, "x", "p"), first_in(one, "p", "y")], [3, 2, 1, 1, 2])
        self.assertIsNone(first_in(book=book(STRICT), x="x", y="y"))

    def test_rows_in_any_order(self):
        rng = random.Random(1)
        for world in WORLDS:
            closure = Closure(world)
            told, rows = book(world)
            for _ in range(5):
                mixed = list(rows)
                rng.shuffle(mixed)
                for x in world.hosts:
                    for y in world.hosts:
                        self.assert_same(first_in((told, tuple(mixed)), x, y), closure.first(x, y))

    def test_any_values_as_hosts(self):
        for value in values_but(["x", "y", "p"]):
            self.assertIsNone(first_in(book(ONE), value, "x"))
            self.assertIsNone(first_in(book(ONE), "x", value))
            self.assertIsNone(first_in(book(ONE), value, value))
            self.assertIsNone(first_in(((), ()), value, value))


class ShowsBookTest(Checks, unittest.TestCase):

    def assert_no_book(self, thing, world=ONE):
        self.assertIs(shows_book(world, thing), False, thing)

    def test_right_books(self):
        self.assertEqual([shows_book(ONE, book(ONE)), shows_book(STRICT, book(ONE))], [True, False])
        self.assertIs(shows_book(world=ONE, thing=(TOLD, ROWS), speakers=None), True)
        for world in WORLDS + (BIG,):
            for speakers in (None, world.hosts[1:], world.hosts[::2], ()):
                self.assertIs(shows_book(world, book(world, speakers=speakers), speakers=speakers), True)

    def test_other_speakers(self):
        self.assertIs(shows_book(ONE, book(ONE), speakers=["x", "y"]), False)
        self.assertIs(shows_book(ONE, book(ONE, speakers=["x", "y"])), False)
        self.assertIs(shows_book(ONE, book(ONE), speakers=["y", "p", "x", "p"]), True)

    def test_a_row_too_few_or_too_many(self):
        for at in range(len(ROWS)):
            self.assert_no_book((TOLD, ROWS[:at] + ROWS[at + 1:]))
            self.assert_no_book((TOLD, ROWS[:at] + ROWS[at:at + 1] + ROWS[at:]))
        for row in ((4, "x", A7, "x", B5), (5, "y", A7, "x", B5), (1, "q", P, "p", P), (4, "y", ("blind", 5), "x", B5)):
            rows = tuple(sorted(ROWS + (row,), key=lambda row: (row[0], row[1], show_name(row[2]))))
            self.assert_no_book((TOLD, rows))

    def test_a_name_too_few_or_too_many(self):
        for at in range(len(TOLD)):
            self.assert_no_book((TOLD[:at] + TOLD[at + 1:], ROWS))
            self.assert_no_book((TOLD[:at] + TOLD[at:at + 1] + TOLD[at:], ROWS))
        for pair in ((4, ("lent", "a", X, 5)), (4, ("lent", "a", X, X)), (4, ("own", 1)), (4, ("blind", 5)), (4, A7)):
            self.assert_no_book((TOLD + (pair,), ROWS))
        # a name that nobody sees, with the rows that would follow
        name = ("lent", "a", X, 5)
        self.assert_no_book((TOLD + ((5, name),), ROWS + ((6, "p", name, "x", P), (6, "y", name, "x", B5))))

    def test_names_that_tell_one_another(self):
        # if all were told a round later, each packet would be delivered a round later
        later = tuple((number + 1, name) for number, name in TOLD)
        rows = tuple((number if name[0] == "own" else number + 1, *rest) for number, *rest in ROWS for name in rest[1:2])
        self.assert_no_book((later, rows))

    def test_another_order(self):
        for at in range(len(ROWS) - 1):
            self.assert_no_book((TOLD, ROWS[:at] + (ROWS[at + 1], ROWS[at]) + ROWS[at + 2:]))
        for at in range(len(TOLD) - 1):
            self.assert_no_book((TOLD[:at] + (TOLD[at + 1], TOLD[at]) + TOLD[at + 2:], ROWS))

    def test_another_round_host_or_source(self):
        for at, row in enumerate(ROWS):
            for other in ((row[0] + 1,) + row[1:], (row[0] - 1,) + row[1:], row[:1] + ("q",) + row[2:],
                          row[:2] + (("own", 2),) + row[3:], row[:3] + ("q",) + row[4:], row[:4] + (("blind", 5),),
                          row[:4] + (("own", True),), (row[0] == 1,) + row[1:], list(row), row + (None,), row[:4]):
                self.assert_no_book((TOLD, ROWS[:at] + (other,) + ROWS[at + 1:]))
        for at, (number, name) in enumerate(TOLD):
            for other in ((number + 1, name), (number - 1, name), (number == 1, name), [number, name], (number, A1, 1),
                          (number, ("lent", "a", X, 5)), (number, list(name))):
                self.assert_no_book((TOLD[:at] + (other,) + TOLD[at + 1:], ROWS))

    def test_any_value(self):
        for value in any_values():
            for thing in (value, (value,), (TOLD, value), (value, ROWS), (TOLD, ROWS, value), (value, TOLD, ROWS),
                          (TOLD + (value,), ROWS), (TOLD, ROWS + (value,)), ((value,) + TOLD[1:], ROWS),
                          (TOLD, (value,) + ROWS[1:])):
                self.assert_no_book(thing)
        for thing in ([TOLD, ROWS], (list(TOLD), ROWS), (TOLD, list(ROWS)), (ROWS, TOLD), {TOLD: ROWS}, (TOLD,), ROWS):
            self.assert_no_book(thing)
        for value in values_but([(), []]):
            self.assertIs(shows_book(World(), ((), value)), False)
            self.assertIs(shows_book(World(), (value, ())), False)
        self.assertIs(shows_book(World(), ((), ())), True)

    def test_each_changed_part(self):
        for world, speakers in ((ONE, None), (STRICT, ("x", "p"))):
            right = book(world, speakers=speakers)
            for thing in changed(right):
                self.assertIs(shows_book(world, thing, speakers=speakers), False, thing)
        for world in (INNER, CHAIN, DEEP, BIG):
            right = book(world)
            for thing in some_changed(right, random.Random(1), 200):
                self.assertIs(shows_book(world, thing), False, thing)

    def test_random_worlds(self):
        for seed in range(150):
            rng = random.Random(seed)
            world = random_world(rng, gates=5, hosts=5, last=12)
            speakers = None if rng.random() < 0.5 else [host for host in world.hosts if rng.random() < 0.7]
            model = NameModel(world, speakers)
            right = book(world, speakers=speakers)
            self.assert_same(right, model.book())
            self.assertTrue(model.is_book(right))
            self.assertIs(shows_book(world, right, speakers=speakers), True)
            for thing in some_changed(right, rng, 40):
                self.assertIs(shows_book(world, thing, speakers=speakers), same(thing, right), thing)

    def test_books_of_looser_worlds(self):
        for seed in range(80):
            rng = random.Random(seed)
            world = random_world(rng, gates=4, hosts=4)
            for gate in world.gates:
                other = world.with_kind(gate, world.kind(gate) | Kind("both", rng.choice(["far", "any"])))
                self.assertIs(shows_book(world, book(other)), same(book(other), book(world)))


if __name__ == "__main__":
    unittest.main()
