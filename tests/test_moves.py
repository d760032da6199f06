"""Rounds behind an event ([26], [33] and [34])."""

import random
import unittest

from meetbehind.bookcheck import shows_book_after
from meetbehind.books import book, first_in
from meetbehind.closure import Closure
from meetbehind.errors import Clash, InvalidEvent, NoStation
from meetbehind.kinds import Kind
from meetbehind.leftovers import event_in, remaining
from meetbehind.looser import grown
from meetbehind.movenets import MoveNet
from meetbehind.moves import back, book_after, heard_again
from meetbehind.names import show_name
from meetbehind.worlds import World
from tests.model import model_behind, NameModel, random_world
from tests.samples import (any_values, BIG, changed, Checks, CHAIN, DEEP, DRIFT, INNER, ONE, same, SIX, some_changed,
                           STRICT, TALKERS, values_but)
from tests.test_leftovers import events

WORLDS = (ONE, STRICT, INNER, CHAIN, DEEP, SIX, DRIFT, TALKERS)
X_OUT = ("moves", "x", "")


def loosened(world, rng):
    """A world in which some gates are looser."""
    for gate in world.gates:
        more = Kind(rng.choice(Kind.LENDS), rng.choice(Kind.LETS), turns=rng.random() < 0.5)
        if rng.random() < 0.5:
            world = world.with_kind(gate, world.kind(gate) | more)
    return world


class Program:
    """All hosts send to all endpoints that they know, in a network with ports."""

    def __init__(self, world, rng):
        self.net = MoveNet(world, choose=lambda gate, used: max(used, default=1) + rng.randint(1, 999))
        self.model = NameModel(world)
        self.known = {("own", part[3]): [(part[3], 1)] for part in world.parts if part[0] == "host"}
        self.known.update({("blind", part[3]): [(part[3], 0)] for part in world.parts if part[0] == "gate"})

    def round(self):
        """The pairs (sender, hearer) of the packets of a round that were delivered."""
        found = set()
        shown = []
        for name in list(self.known):
            for endpoint in self.known[name]:
                for host in self.net.world.hosts:
                    result = self.net.send(host, endpoint)
                    if result[0] == "heard":
                        found.add((host, result[1]))
                        shown.append((self.model.way(host, name)[0][-1], result[2]))
        for name, endpoint in shown:
            # the endpoint that was seen first stands for the name
            self.known.setdefault(name, [endpoint])
        return found

    def after(self, event, leftover):
        """Lets the event happen; the names that become others by leftover keep their endpoints."""
        if event[0] == "falls":
            self.net.fall(event[1])
        else:
            self.net.move(*event[1:])
        self.model = NameModel(self.net.world)
        known = {}
        for name, endpoints in self.known.items():
            rest = leftover(name)
            if rest is not None:
                known.setdefault(rest, []).extend(endpoints)
        self.known = known


def leftover_of(world, event):
    """The function that tells what is left of a name, or None."""
    model = NameModel(world)

    def is_dead(name):
        if name[0] != "lent":
            return False
        if event[0] == "falls":
            return name[1] == event[1] or is_dead(name[2])
        return is_dead(name[2]) if name[2][0] == "lent" else model.map.stations.get((name[1], name[2][1])) == event[1]

    def rest(name):
        if is_dead(name):
            return None
        if name[0] != "lent":
            return name
        key = model.address(name[3]) if isinstance(name[3], tuple) and is_dead(name[3]) else name[3]
        return ("lent", name[1], rest(name[2]), key)
    return rest


class BookAfterTest(Checks, unittest.TestCase):

    def check(self, world, event):
        right = model_behind(world, event).book()
        found = book_after(world, event)
        self.assert_same(found, right)
        self.assertIs(shows_book_after(world, event, found), True)

    def test_word_for_word(self):
        x, y, p = ("own", 10), ("own", 11), ("own", 1)
        b1, b5 = [("lent", "b", y, key) for key in (p, 5)]
        a10 = ("lent", "a", x, None)
        ba = ("lent", "b", y, a10)
        rows = ((1, "p", p, "p", p), (1, "p", b1, "y", p), (1, "x", p, "p", a10), (1, "x", x, "x", x),
                (1, "x", b5, "y", a10), (1, "y", p, "p", b1), (1, "y", y, "y", y), (2, "p", a10, "x", p),
                (2, "y", a10, "x", ba), (3, "x", ba, "y", a10))
        self.assert_same(book_after(DRIFT, ("falls", "a")), (((1, a10), (2, ba)), rows))
        self.assert_same(book_after(world=DRIFT, event=("falls", "a")), (((1, a10), (2, ba)), rows))

    def test_names_that_are_left_are_not_told(self):
        for world in WORLDS:
            for event in events(world):
                told = [name for _, name in book_after(world, event)[0]]
                self.assertEqual([name for name in told if name in remaining(world, event)], [])

    def test_names_that_were_known_before_the_first_round(self):
        # p falls silent when a falls: b(11|1) and b(11|5?) are known still
        senders = [row[1:3] for row in book_after(DRIFT, ("falls", "a"))[1] if row[0] == 1]
        self.assertIn(("x", ("lent", "b", ("own", 11), 5)), senders)
        self.assertIn(("p", ("lent", "b", ("own", 11), ("own", 1))), senders)

    def test_entries_whose_names_were_not_told(self):
        # y sent to ("blind", 5) by an entry of b that nobody saw as a source
        world = World(("gate", "a", "", 5, Kind("far", "any")), ("gate", "b", "", 7, Kind("far", "far")),
                      ("host", "x", "a", 10), ("host", "y", "b", 11), ("host", "p", "", 1))
        for event in (("falls", "a"), X_OUT, ("falls", "b"), ("moves", "p", "a")):
            self.check(world, event)
        # the entry b(11|10) was made by packets to the own name 10, which were lost; x moves to where it is seen
        self.assertNotIn("b(11|10?)", [show_name(name) for name in Closure(DRIFT.with_kind("b", Kind("far", "far"))).names])
        world = DRIFT.with_kind("b", Kind("far", "far"))
        self.check(world, X_OUT)
        self.assertEqual([row[0] for row in book_after(world, X_OUT)[1] if row[1:4:2] == ("x", "y")][:1], [2])

    def test_a_host_that_is_heard_at_once(self):
        self.assertEqual(first_in(book(DRIFT), "x", "y"), 3)
        self.assertEqual(first_in(book_after(DRIFT, ("falls", "a")), "x", "y"), 1)
        self.assertEqual(first_in(book_after(DRIFT, ("moves", "p", "b")), "x", "y"), 1)

    def test_worlds_of_the_document(self):
        for world in WORLDS:
            for event in events(world):
                self.check(world, event)
        for event in events(BIG)[::5]:
            self.check(BIG, event)

    def test_random_worlds(self):
        for seed in range(70):
            world = random_world(random.Random(seed), gates=5, hosts=5, last=12)
            for event in events(world):
                self.check(world, event)

    def test_it_is_refused_when_one_part_is_changed(self):
        for world, event in ((DRIFT, ("falls", "a")), (DRIFT, X_OUT), (ONE, ("moves", "p", "b"))):
            right = book_after(world, event)
            for thing in changed(right):
                self.assertIs(shows_book_after(world, event, thing), False, thing)
        for seed in range(40):
            rng = random.Random(seed)
            world = random_world(rng, gates=4, hosts=4, last=12)
            for event in events(world)[:3]:
                right = book_after(world, event)
                for thing in some_changed(right, rng, 5):
                    self.assertIs(shows_book_after(world, event, thing), same(thing, right), thing)

    def test_wrong_events(self):
        wrong = [("falls", "x"), ("falls", ""), ("falls",), ["falls", "a"], ["moves", "x", ""], ("Falls", "a"), ("moves", "a", ""),
                 ("moves", "x", "q"), ("moves", "x"), ("falls", ["a"]), ("moves", "x", "", ""), ("moves", ["x"], "")]
        for value in any_values() + wrong:
            self.assert_raises(InvalidEvent, {"event": value}, book_after, ONE, value)
            self.assert_raises(InvalidEvent, {"event": ("falls", value, "a")}, book_after, ONE, ("falls", value, "a"))
        for event, number in ((("moves", "x", "b"), 10), (("moves", "x", "a"), 10), (("moves", "p", ""), 1)):
            self.assert_raises(Clash, {"number": number}, book_after, ONE, event)


class BackTest(Checks, unittest.TestCase):

    def test_the_examples(self):
        self.assert_same([back(ONE, "a", "x", "y"), back(ONE, "a", "y", "x"), back(ONE, "b", "x", "y")], [1, 2, 2])
        self.assert_same([[show_name(name) for name in remaining(DRIFT, ("falls", "a"))], back(DRIFT, "a", "x", "y"),
                          heard_again(DRIFT, "x", "", "x", "y"), heard_again(DRIFT, "y", "a", "x", "y")],
                         [["b(11|1)", "b(11|5?)"], 1, 2, 1])

    def test_by_name(self):
        self.assert_same(back(world=ONE, gate="b", x="x", y="y"), 2)
        self.assert_same(heard_again(world=DRIFT, host="x", realm="", x="x", y="y"), 2)

    def test_what_the_text_tells(self):
        # if b forgets, x still hears y: a lets in every source
        self.assert_same(back(ONE, "b", "y", "x"), 1)
        # when x moves into the open realm, y must send to it first
        self.assert_same(heard_again(DRIFT, "x", "", "y", "x"), 1)

    def test_never(self):
        self.assertIsNone(back(STRICT, "a", "x", "y"))
        self.assertIsNone(heard_again(STRICT, "p", "a", "x", "y"))
        # x behind a sends to nobody who stands outside
        self.assertIsNone(heard_again(STRICT, "p", "b", "x", "y"))

    def test_one_host(self):
        for world in WORLDS:
            for gate in world.gates:
                for host in world.hosts:
                    self.assert_same(back(world, gate, host, host), 1)

    def test_they_are_in_the_book(self):
        for world in WORLDS:
            for event in events(world):
                right = model_behind(world, event).book()
                for x in world.hosts:
                    for y in world.hosts:
                        found = (back(world, event[1], x, y) if event[0] == "falls"
                                 else heard_again(world, event[1], event[2], x, y))
                        self.assert_same(found, first_in(right, x, y))

    def test_errors_in_their_order(self):
        for value in values_but(["a", "b"]):
            self.assert_raises(NoStation, {"name": value}, back, ONE, value, None, None)
        for value in values_but(["x", "y", "p"]):
            self.assert_raises(NoStation, {"name": value}, back, ONE, "a", value, None)
            self.assert_raises(NoStation, {"name": value}, back, ONE, "a", "x", value)
            self.assert_raises(NoStation, {"name": value}, heard_again, ONE, value, None, None, None)
            self.assert_raises(NoStation, {"name": value}, heard_again, ONE, "x", None, value, None)
            self.assert_raises(NoStation, {"name": value}, heard_again, ONE, "x", None, "y", value)
        for value in values_but(["", "a", "b"]):
            self.assert_raises(InvalidEvent, {"event": ("moves", "x", value)}, heard_again, ONE, "x", value, "x", "y")
        for realm in ("a", "b"):
            self.assert_raises(Clash, {"number": 10}, heard_again, ONE, "x", realm, "y", "x")
        self.assert_raises(Clash, {"number": 1}, heard_again, ONE, "p", "", "y", "x")


class NobodyIsHeardLaterTest(Checks, unittest.TestCase):

    def assert_not_later(self, world, one, two):
        """Asserts that nobody is heard later in the book two."""
        for x in world.hosts:
            for y in world.hosts:
                if first_in(one, x, y) is not None:
                    self.assertIsNotNone(first_in(two, x, y), (str(world), x, y))
                    self.assertLessEqual(first_in(two, x, y), first_in(one, x, y), (str(world), x, y))

    def test_than_in_the_closure_behind_the_event(self):
        worlds = list(WORLDS) + [random_world(random.Random(seed), gates=5, hosts=5, last=12) for seed in range(50)]
        for world in worlds:
            for event in events(world):
                self.assert_not_later(world, book(event_in(world, event)), book_after(world, event))

    def test_behind_the_same_event_in_a_looser_or_grown_world(self):
        for seed in range(80):
            rng = random.Random(seed)
            world = random_world(rng, gates=5, hosts=5, last=12)
            others = [loosened(world, rng), grown(world, "helper", rng.choice(("",) + world.gates))]
            for event in rng.sample(events(world), min(4, len(events(world)))):
                one = book_after(world, event)
                for other in others:
                    self.assert_not_later(world, one, book_after(other, event))


class NetworkChecks(Checks):

    def check_network(self, world, event, rng):
        """Asserts that what the rounds tell is so in a network, in which all hosts send to all that they know."""
        program = Program(world, rng)
        for _ in range(Closure(world).rounds + 2):
            program.round()
        right = book_after(world, event)
        program.after(event, leftover_of(world, event))
        heard = {}
        for number in range(1, (right[1][-1][0] if right[1] else 0) + 3):
            for pair in program.round():
                heard.setdefault(pair, number)
        for x in world.hosts:
            for y in world.hosts:
                first = first_in(right, x, y)
                if first is None:
                    self.assertNotIn((x, y), heard, (str(world), event))
                else:
                    # packets of the same round may have opened a gate, too
                    self.assertLessEqual(heard[(x, y)], first, (str(world), event, x, y))


class NetworkTest(NetworkChecks, unittest.TestCase):

    def test_worlds_of_the_document(self):
        for seed, world in enumerate(WORLDS):
            for event in events(world):
                self.check_network(world, event, random.Random(seed))

    def test_random_worlds(self):
        for seed in range(80):
            rng = random.Random(seed)
            world = random_world(rng, gates=4, hosts=4, last=12)
            for event in rng.sample(events(world), min(4, len(events(world)))):
                self.check_network(world, event, rng)


if __name__ == "__main__":
    unittest.main()
