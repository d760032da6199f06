"""What is a plan, and what is none ([18])."""

import random
import unittest

from meetbehind.closure import Closure
from meetbehind.errors import NoStation
from meetbehind.kinds import Kind
from meetbehind.plancheck import shows_plan
from meetbehind.plans import reach
from meetbehind.worlds import World
from tests.model import NameModel, random_world, text_of
from tests.samples import (A1, A7, B1, B5, changed, Checks, CHAIN, DEEP, INNER, ONE, SIX, some_changed,
                           STRICT, values_but)

PLAN = ((1, "x", ("own", 1)), (2, "y", A1), (3, "x", B5))
OPEN = World(("host", "x", "", 1), ("host", "y", "", 2), ("host", "z", "", 3))


class RowsTest(Checks, unittest.TestCase):

    def assert_plan(self, rows, x="x", y="y", world=ONE, speakers=None):
        self.assertIs(shows_plan(world, x, y, rows, speakers=speakers), True, rows)

    def assert_no_plan(self, rows, x="x", y="y", world=ONE, speakers=None):
        self.assertIs(shows_plan(world, x, y, rows, speakers=speakers), False, rows)

    def test_the_example(self):
        self.assert_plan(PLAN)
        self.assertIs(shows_plan(world=ONE, x="x", y="y", thing=PLAN, speakers=None), True)
        self.assert_no_plan(PLAN, "y", "x")
        self.assert_plan(PLAN[:2], "y", "x")
        self.assert_plan(PLAN[:1], "x", "p")
        self.assert_no_plan(PLAN, world=STRICT)

    def test_rounds_may_be_left_out(self):
        self.assert_plan(((2, "x", ("own", 1)), (5, "y", A1), (9, "x", B5)))
        self.assert_plan(((10 ** 58, "x", ("own", 1)), (10 ** 58 + 1, "y", A1), (10 ** 59, "x", B5)))

    def test_a_plan_need_not_be_the_shortest(self):
        self.assert_plan(((1, "x", ("own", 1)), (2, "y", A1), (3, "x", B5), (4, "x", B5)))
        self.assert_plan(((1, "x", ("own", 1)), (1, "y", ("own", 1)), (2, "p", A1), (2, "y", A1), (3, "x", B5)))
        self.assert_plan(((1, "x", ("own", 1)), (2, "x", ("own", 1)), (3, "y", A1), (4, "x", B5)))
        self.assert_plan(((1, "x", ("own", 1)), (1, "y", ("own", 1)), (2, "y", A1), (3, "x", B1), (3, "x", B5)))

    def test_a_row_of_the_last_round_must_be_delivered_to_y(self):
        self.assert_no_plan(PLAN + ((4, "x", ("own", 1)),))
        self.assert_no_plan(PLAN + ((4, "y", A7),))
        self.assert_plan(PLAN + ((4, "y", A7),), "y", "x")
        # another row may stand behind it in its round
        self.assert_plan(PLAN + ((3, "y", A1),))
        self.assert_plan(((1, "x", ("own", 1)), (2, "y", A1), (3, "p", ("own", 10)), (3, "x", B5), (3, "y", A1)))

    def test_the_empty_plan(self):
        self.assert_no_plan(())
        self.assert_no_plan((), "x", "x")

    def test_a_row_twice(self):
        for at in range(3):
            self.assert_no_plan(PLAN[:at] + PLAN[at:at + 1] + PLAN[at:])

    def test_rows_out_of_order(self):
        self.assert_no_plan((PLAN[1], PLAN[0], PLAN[2]))
        self.assert_no_plan(PLAN[::-1])
        self.assert_plan(((1, "x", ("own", 1)), (1, "y", ("own", 1)), (2, "y", A1), (3, "x", B5)))
        self.assert_no_plan(((1, "y", ("own", 1)), (1, "x", ("own", 1)), (2, "y", A1), (3, "x", B5)))
        self.assert_plan(((1, "x", ("own", 1)), (1, "x", ("blind", 7)), (2, "y", A1), (3, "x", B5)))
        self.assert_no_plan(((1, "x", ("blind", 7)), (1, "x", ("own", 1)), (2, "y", A1), (3, "x", B5)))

    def test_texts_are_sorted_as_strings(self):
        world = World(("host", "x", "", 9), ("host", "y", "", 10))
        self.assert_plan(((1, "x", ("own", 10)), (1, "x", ("own", 9))), world=world)
        self.assert_no_plan(((1, "x", ("own", 9)), (1, "x", ("own", 10))), world=world)

    def test_a_name_that_is_seen_only_in_the_same_round(self):
        self.assert_no_plan(((1, "x", ("own", 1)), (1, "y", A1)), "y", "x")
        self.assert_no_plan(((1, "x", ("own", 1)), (2, "x", B5), (2, "y", A1)))

    def test_a_name_that_is_not_seen(self):
        self.assert_no_plan(PLAN[1:])
        self.assert_no_plan(PLAN[:1] + PLAN[2:])
        self.assert_no_plan(((1, "y", A1),), "y", "x")
        # b lets everything in, but nobody knows this name
        self.assert_no_plan(((1, "y", ("own", 1)), (2, "x", B5)), world=ONE.with_kind("b", Kind("both", "any")))

    def test_a_name_that_only_a_silent_host_sees(self):
        self.assert_plan(PLAN, speakers=("x", "y", "p"))
        self.assert_no_plan(PLAN, speakers=("x", "y"))
        self.assert_plan(PLAN[:1], "x", "p", speakers=["x"])

    def test_a_speaker_who_is_none(self):
        self.assert_no_plan(((1, "p", ("own", 1)),) + PLAN, speakers=("x", "y"))
        self.assert_no_plan(PLAN[:2], "y", "x", speakers=["x", "p"])
        for host in ("a", "b", "q", "", "X"):
            self.assert_no_plan(((1, host, ("own", 1)),) + PLAN)
        self.assert_no_plan(PLAN, speakers=())

    def test_the_order_kind_and_repetition_of_speakers(self):
        for speakers in (["y", "x", "p", "x"], {"x", "y", "p"}, ("p", "x", "y"), None):
            self.assert_plan(PLAN, speakers=speakers)

    def test_coming_in_is_judged_by_rows_of_earlier_rounds(self):
        world = ONE.with_kind("a", Kind("one", "far"))
        name = ("lent", "a", ("own", 10), None)
        shown = ("lent", "b", ("own", 10), name)
        self.assert_plan(((1, "x", ("own", 1)), (1, "x", ("blind", 7)), (2, "y", name)), "y", "x", world=world)
        self.assert_no_plan(((1, "x", ("own", 1)), (2, "x", ("blind", 7)), (2, "y", name)), "y", "x", world=world)
        self.assert_no_plan(((1, "x", ("own", 1)), (2, "y", name), (3, "x", ("blind", 7))), "y", "x", world=world)
        self.assert_no_plan(((1, "x", ("own", 1)), (2, "y", name), (3, "x", shown)), world=world)

    def test_in_a_plan_only_its_rows_are_sent(self):
        # in the closure y also sends to ("blind", 20), which opens b
        plan = reach(INNER, "x", "y")[1]
        self.assert_plan(plan, world=INNER)
        for at in range(len(plan)):
            self.assert_no_plan(plan[:at] + plan[at + 1:], world=INNER)

    def test_one_host(self):
        self.assert_plan(((1, "x", ("own", 10)),), "x", "x")
        self.assert_plan(((7, "x", ("own", 1)),), "x", "x", world=OPEN)
        self.assert_no_plan(((7, "x", ("own", 2)),), "x", "x", world=OPEN)

    def test_numbers_of_rounds(self):
        for number in (0, -1, True, False, None, "1", (1,), [1], -10 ** 59):
            self.assert_no_plan(((number, "x", ("own", 2)),), world=OPEN)
        for number in (1, 2, 10 ** 6 + 1, 10 ** 59):
            self.assert_plan(((number, "x", ("own", 2)),), world=OPEN)


class AnyValueTest(Checks, unittest.TestCase):

    def test_any_value(self):
        for value in values_but([1, "x", ("own", 1)]):
            for thing in (value, (value,), PLAN + (value,), (value,) + PLAN, ((1, "x", value),) + PLAN[1:],
                          ((1, value, ("own", 1)),) + PLAN[1:], ((value, "x", ("own", 1)),) + PLAN[1:]):
                self.assertIs(shows_plan(ONE, "x", "y", thing), False, thing)

    def test_what_other_functions_return(self):
        for thing in (reach(ONE, "x", "y"), reach(STRICT, "x", "y"), [PLAN], list(PLAN), {PLAN: PLAN}, Closure(ONE),
                      tuple(Closure(ONE).arrivals()), Closure(ONE).names):
            self.assertIs(shows_plan(ONE, "x", "y", thing), False, thing)

    def test_one_part_changed(self):
        model = NameModel(ONE)
        for thing in changed(PLAN):
            self.assertIs(shows_plan(ONE, "x", "y", thing), model.shows_plan("x", "y", thing), thing)

    def test_wrong_hosts_in_their_order(self):
        for value in values_but(["x", "y", "p"]):
            self.assert_raises(NoStation, {"name": value}, shows_plan, ONE, value, "x", PLAN)
            self.assert_raises(NoStation, {"name": value}, shows_plan, ONE, "x", value, PLAN)
            self.assert_raises(NoStation, {"name": value}, shows_plan, ONE, "x", "y", PLAN, speakers=("x", value))
            self.assert_raises(NoStation, {"name": value}, shows_plan, ONE, value, None, None, speakers=["q"])
            self.assert_raises(NoStation, {"name": value}, shows_plan, ONE, "x", value, None, speakers=["q"])
        self.assert_raises(NoStation, {"name": "b"}, shows_plan, ONE, "x", "y", None, speakers={"q", "b", "x", "d"})
        self.assert_raises(NoStation, {"name": "a"}, shows_plan, ONE, "a", "b", ())


class ManyWorldsTest(Checks, unittest.TestCase):

    def check(self, world, rng, speakers=None, many=8):
        model = NameModel(world, speakers)
        for x in world.hosts:
            for y in world.hosts:
                word, rows = reach(world, x, y, speakers=speakers)
                if word == "never":
                    continue
                self.assertIs(shows_plan(world, x, y, rows, speakers=speakers), True)
                for thing in some_changed(rows, rng, many) + [rows[:at] + rows[at + 1:] for at in range(len(rows))]:
                    self.assertIs(shows_plan(world, x, y, thing, speakers=speakers), model.shows_plan(x, y, thing),
                                  (str(world), x, y, thing))

    def test_plans_of_reach_in_worlds_of_the_document(self):
        for at, world in enumerate((ONE, STRICT, INNER, CHAIN, DEEP, SIX, OPEN)):
            self.check(world, random.Random(at))

    def test_plans_of_reach_in_random_worlds(self):
        for seed in range(100):
            rng = random.Random(seed)
            world = random_world(rng, gates=5, hosts=4, last=12)
            self.check(world, rng)
            self.check(world, rng, [host for host in world.hosts if rng.random() < 0.7])

    def test_random_rows(self):
        right = 0
        for seed in range(300):
            rng = random.Random(seed)
            world = random_world(rng, gates=3, hosts=4, last=9)
            model = NameModel(world)
            x, y = rng.choice(world.hosts), rng.choice(world.hosts)
            rows = set(row[:3] for row in Closure(world).arrivals())
            rows |= {(rng.randint(1, 3), host, ("blind", world.address(gate)))
                     for host in world.hosts for gate in world.gates}
            rows = [row for row in rows if rng.random() < 0.8]
            thing = tuple(sorted(rows, key=lambda row: (row[0], row[1], text_of(row[2]))))
            self.assertIs(shows_plan(world, x, y, thing), model.shows_plan(x, y, thing), thing)
            right += shows_plan(world, x, y, thing)
        self.assertTrue(10 <= right <= 290, right)


if __name__ == "__main__":
    unittest.main()
