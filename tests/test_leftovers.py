"""What is left when a gate falls or a host moves ([33], [34])."""

import random
import unittest

from meetbehind.bookcheck import shows_book, shows_book_after
from meetbehind.books import book, first_in
from meetbehind.errors import Clash, InvalidEvent
from meetbehind.kinds import Kind
from meetbehind.leftovers import event_in, remaining
from meetbehind.names import is_name, show_name
from meetbehind.worlds import World
from tests.model import model_behind, random_world
from tests.samples import (any_values, BIG, changed, Checks, CHAIN, DEEP, DRIFT, INNER, ONE, same, SIX, some_changed,
                           STRICT, TALKERS)

WORLDS = (ONE, STRICT, INNER, CHAIN, DEEP, SIX, DRIFT, TALKERS)
X_OUT = ("moves", "x", "")


def texts(names):
    return [show_name(name) for name in names]


def events(world):
    """All events of a world that do not clash."""
    found = [("falls", gate) for gate in world.gates]
    for host in world.hosts:
        for realm in ("",) + world.gates:
            if world.station(realm, world.address(host)) is None:
                found.append(("moves", host, realm))
    return found


class EventTest(Checks, unittest.TestCase):

    def test_a_gate_falls(self):
        for world in WORLDS:
            for gate in world.gates:
                self.assertEqual(event_in(world, ("falls", gate)), world)
        self.assertEqual(event_in(world=ONE, event=("falls", "a")).parts, ONE.parts)

    def test_a_host_moves(self):
        after = event_in(DRIFT, X_OUT)
        self.assert_same(after.parts[:2], DRIFT.parts[:2])
        self.assertEqual(after.parts[2:], (DRIFT.parts[3], DRIFT.parts[4], ("host", "x", "", 10)))
        self.assertEqual(event_in(DRIFT, ("moves", "y", "a")).realm("y"), "a")
        # the world is as it was
        self.assertEqual(DRIFT.realm("x"), "a")

    def test_no_event(self):
        wrong = [("falls", "x"), ("falls", ""), ("falls", "q"), ("falls",), ("falls", "a", ""), ("moves", "x"),
                 ("moves", "a", ""), ("moves", "q", ""), ("moves", "x", "y"), ("moves", "x", "q"), ("moves", "x", None),
                 ("moves", "x", "", 1), ["falls", "a"], ["moves", "x", ""], ("Falls", "a"), ("moves", "", "x"), (), "falls",
                 ("falls", ["a"]), ("falls", ("a",)), ("moves", ("x",), ""), ("moves", "x", [""]), ("falls", {"a"}),
                 ("moves", "x", True), (None, "a"), ("falls", None), ("moves", None, ""), {"falls": "a"}]
        for value in any_values() + wrong:
            for ask in (event_in, remaining, lambda world, event: shows_book_after(world, event, None)):
                self.assert_raises(InvalidEvent, {"event": value}, ask, ONE, value)
        for value in any_values():
            self.assert_raises(InvalidEvent, {"event": ("moves", value, "q")}, event_in, ONE, ("moves", value, "q"))
            self.assert_raises(InvalidEvent, {"event": (value, "a")}, event_in, ONE, (value, "a"))

    def test_an_address_that_is_taken(self):
        for event, number in ((("moves", "x", "b"), 10), (("moves", "x", "a"), 10), (("moves", "p", ""), 1)):
            for ask in (event_in, remaining, lambda world, event: shows_book_after(world, event, None)):
                self.assert_raises(Clash, {"number": number}, ask, ONE, event)
        # also by a gate
        world = ONE.with_part(("host", "z", "a", 7))
        self.assert_raises(Clash, {"number": 7}, event_in, world, ("moves", "z", ""))
        self.assertEqual(event_in(world, ("moves", "z", "b")).realm("z"), "b")
        # what is no event comes first
        self.assert_raises(InvalidEvent, {"event": ("moves", "x", "q")}, event_in, ONE, ("moves", "x", "q"))


class RemainingTest(Checks, unittest.TestCase):

    def test_the_example(self):
        self.assertEqual(texts(remaining(DRIFT, ("falls", "a"))), ["b(11|1)", "b(11|5?)"])
        self.assert_same(remaining(world=DRIFT, event=("falls", "a")),
                         (("lent", "b", ("own", 11), ("own", 1)), ("lent", "b", ("own", 11), 5)))

    def test_a_gate_that_falls(self):
        self.assertEqual(texts(remaining(DRIFT, ("falls", "b"))), ["a(10)"])
        self.assertEqual(texts(remaining(ONE, ("falls", "a"))), ["b(10|1)", "b(10|5?)"])
        self.assertEqual(texts(remaining(ONE, ("falls", "b"))), ["a(10|1)", "a(10|7?)"])

    def test_a_gate_falls_that_occurs_within_a_name(self):
        self.assertEqual(texts(name for _, name in book(CHAIN)[0]), ["b(10)", "n(m(10)|1?)"])
        self.assertEqual([texts(remaining(CHAIN, ("falls", gate))) for gate in ("b", "m", "n")],
                         [["n(m(10)|1?)"], ["b(10)"], ["b(10)"]])

    def test_a_host_that_moves(self):
        self.assertEqual(texts(remaining(DRIFT, X_OUT)), ["b(11|1)", "b(11|5?)"])
        self.assertEqual(texts(remaining(DRIFT, ("moves", "y", ""))), ["a(10)"])
        self.assertEqual(texts(remaining(DRIFT, ("moves", "p", "a"))), ["a(10)", "b(11|1)", "b(11|a(10))"])

    def test_own_names_are_not_dead(self):
        # the key of b(11|10) is the own name of x, which moves from the open realm into a
        world = World(("gate", "a", "", 5, Kind("one", "any")), ("gate", "b", "", 7, Kind("both", "far")),
                      ("host", "x", "", 10), ("host", "y", "b", 11))
        self.assertEqual(texts(remaining(world, ("moves", "x", "a"))), ["b(11|10)"])

    def test_another_host_with_the_same_address(self):
        world = World(("gate", "a", "", 5, Kind("one", "any")), ("gate", "b", "", 7, Kind("one", "any")),
                      ("gate", "c", "", 9, Kind("one", "any")), ("host", "x", "a", 10), ("host", "y", "b", 10),
                      ("host", "p", "", 1))
        self.assertEqual(texts(remaining(world, ("moves", "x", "c"))), ["b(10)"])
        self.assertEqual(texts(remaining(world, ("moves", "y", "c"))), ["a(10)"])

    def test_names_that_become_one(self):
        world = DRIFT.with_kind("a", Kind("far", "any"))
        names = texts(name for _, name in book(world)[0])
        self.assertIn("b(11|a(10|1?))", names)
        self.assertIn("b(11|a(10|7?))", names)
        for event in (("falls", "a"), X_OUT):
            self.assertEqual(texts(remaining(world, event)), ["b(11|1)", "b(11|5?)"])

    def test_keys_that_become_addresses_deep_within_a_name(self):
        # c lends by "one" what b lent by "both"
        world = World(("gate", "a", "", 5, Kind("one", "any")), ("gate", "c", "", 8, Kind("one", "any")),
                      ("gate", "b", "c", 7, Kind("both", "any")), ("host", "x", "a", 10), ("host", "y", "b", 11),
                      ("host", "p", "", 1))
        self.assertIn("c(b(11|a(10)))", texts(name for _, name in book(world)[0]))
        for event in (("falls", "a"), X_OUT):
            self.assertEqual(texts(remaining(world, event)), ["c(b(11|1))", "c(b(11|5?))"])
        self.assertEqual(texts(remaining(world, ("falls", "b"))), ["a(10)"])
        self.assertEqual(texts(remaining(world, ("falls", "c"))), ["a(10)"])

    def test_what_is_left_are_names_of_the_world_behind_the_event(self):
        for world in WORLDS + (BIG,):
            for event in events(world):
                after = event_in(world, event)
                names = remaining(world, event)
                self.assertTrue(all(is_name(after, name) and name[0] == "lent" for name in names))
                self.assertEqual(list(names), sorted(set(names), key=show_name))

    def test_in_all_worlds(self):
        for world in WORLDS:
            for event in events(world):
                self.assert_same(remaining(world, event), tuple(model_behind(world, event).left))

    def test_in_random_worlds(self):
        for seed in range(60):
            world = random_world(random.Random(seed), gates=5, hosts=5, last=12)
            for event in events(world):
                self.assert_same(remaining(world, event), tuple(model_behind(world, event).left))


class ShowsBookAfterTest(Checks, unittest.TestCase):

    def test_rounds_behind_events_of_the_document(self):
        for world, event, x, y, number in (
                (ONE, ("falls", "a"), "x", "y", 1), (ONE, ("falls", "a"), "y", "x", 2), (ONE, ("falls", "b"), "x", "y", 2),
                (DRIFT, ("falls", "a"), "x", "y", 1), (DRIFT, X_OUT, "x", "y", 2), (DRIFT, ("moves", "y", "a"), "x", "y", 1)):
            right = model_behind(world, event).book()
            self.assertIs(shows_book_after(world, event, right), True)
            self.assertEqual(first_in(right, x, y), number)

    def test_a_book_word_for_word(self):
        x, y, p = ("own", 10), ("own", 11), ("own", 1)
        b1, b5, b10 = [("lent", "b", y, key) for key in (p, 5, x)]
        a10 = ("lent", "a", x, None)
        ba = ("lent", "b", y, a10)
        told = ((1, a10), (2, ba))
        rows = ((1, "p", p, "p", p), (1, "p", b1, "y", p), (1, "x", p, "p", a10), (1, "x", x, "x", x),
                (1, "x", b5, "y", a10), (1, "y", p, "p", b1), (1, "y", y, "y", y), (2, "p", a10, "x", p),
                (2, "y", a10, "x", ba), (3, "x", ba, "y", a10))
        self.assertIs(shows_book_after(world=DRIFT, event=("falls", "a"), thing=(told, rows)), True)
        for at in range(len(rows)):
            self.assertIs(shows_book_after(DRIFT, ("falls", "a"), (told, rows[:at] + rows[at + 1:])), False)
        told = ((1, b10),)
        rows = ((1, "p", p, "p", p), (1, "p", x, "x", p), (1, "p", b1, "y", p), (1, "x", p, "p", x), (1, "x", x, "x", x),
                (1, "y", p, "p", b1), (1, "y", x, "x", b10), (1, "y", y, "y", y), (2, "x", b10, "y", x))
        self.assertIs(shows_book_after(DRIFT, X_OUT, (told, rows)), True)
        self.assertIs(shows_book_after(DRIFT, X_OUT, (told, rows[:-1] + ((3,) + rows[-1][1:],))), False)
        self.assertIs(shows_book_after(DRIFT, X_OUT, (((1, b5),) + told, rows)), False)

    def test_dead_targets_open_nothing_by_both(self):
        world = World(("gate", "a", "", 5, Kind("one", "any")), ("gate", "b", "", 7, Kind("one", "both")),
                      ("host", "x", "a", 10), ("host", "y", "b", 11), ("host", "p", "", 1))
        self.assertEqual(first_in(book(world), "x", "y"), 3)
        # b was sent to a(10), but to the old one
        right = model_behind(world, ("falls", "a")).book()
        self.assertEqual(first_in(right, "x", "y"), 3)
        self.assertIs(shows_book_after(world, ("falls", "a"), right), True)
        # when another gate falls, b is open for it
        other = World(("gate", "c", "", 9, Kind("one", "any")), *world.parts)
        right = model_behind(other, ("falls", "c")).book()
        self.assertEqual(first_in(right, "x", "y"), 1)
        self.assertIs(shows_book_after(other, ("falls", "c"), right), True)

    def test_a_book_of_the_closure_is_another_one(self):
        for world in WORLDS:
            for event in events(world):
                right = model_behind(world, event).book()
                self.assertIs(shows_book_after(world, event, right), True, (str(world), event))
                other = book(event_in(world, event))
                self.assertIs(shows_book_after(world, event, other), same(other, right))

    def test_nothing_is_left(self):
        # all that was there was lent by this gate, so the book behind its fall is that of the closure
        for lets in Kind.LETS:
            world = World(("gate", "a", "", 5, Kind("far", lets)), ("host", "x", "a", 10), ("host", "p", "", 1))
            self.assertEqual(remaining(world, ("falls", "a")), ())
            self.assertIs(shows_book_after(world, ("falls", "a"), book(world)), True)
            self.assertIs(shows_book(world, book(world)), True)

    def test_any_value(self):
        told, rows = model_behind(DRIFT, X_OUT).book()
        for value in any_values():
            for thing in (value, (value,), (told, value), (value, rows), (told, rows, value), (told + (value,), rows),
                          (told, rows + (value,)), ((value,) + told[1:], rows), (told, (value,) + rows[1:])):
                self.assertIs(shows_book_after(DRIFT, X_OUT, thing), False, thing)

    def test_each_changed_part(self):
        for world, event in ((DRIFT, ("falls", "a")), (DRIFT, X_OUT), (ONE, ("falls", "b")), (CHAIN, ("falls", "n"))):
            right = model_behind(world, event).book()
            for thing in changed(right):
                self.assertIs(shows_book_after(world, event, thing), False, thing)

    def test_random_worlds(self):
        for seed in range(80):
            rng = random.Random(seed)
            world = random_world(rng, gates=5, hosts=5, last=12)
            for event in events(world):
                model = model_behind(world, event)
                right = model.book()
                self.assertTrue(model.is_book(right))
                self.assertIs(shows_book_after(world, event, right), True, (str(world), event))
                for thing in some_changed(right, rng, 4):
                    self.assertIs(shows_book_after(world, event, thing), same(thing, right), thing)

    def test_nobody_is_heard_later_than_in_the_closure_behind_the_event(self):
        for seed in range(40):
            world = random_world(random.Random(seed), gates=4, hosts=4, last=12)
            for event in events(world):
                right, other = model_behind(world, event).book(), book(event_in(world, event))
                for x in world.hosts:
                    for y in world.hosts:
                        if first_in(other, x, y) is not None:
                            self.assertLessEqual(first_in(right, x, y), first_in(other, x, y))


if __name__ == "__main__":
    unittest.main()
