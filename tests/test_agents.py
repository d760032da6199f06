"""Agreements with a helper ([22])."""

import inspect
import random
import unittest

from meetbehind.agents import Agent
from meetbehind.closure import Closure
from meetbehind.errors import NoStation
from meetbehind.kinds import Kind
from meetbehind.names import show_name
from meetbehind.talks import even, talk
from meetbehind.worlds import World
from tests.model import AgentModel, random_world
from tests.samples import A1, A7, any_values, B1, B5, BIG, Checks, CHAIN, DEEP, INNER, ONE, SIX, STRICT, TALKERS, values_but

OPEN = World(("host", "x", "", 1), ("host", "y", "", 2), ("host", "p", "", 3))
B10 = ("lent", "b", ("own", 10), None)
A_B10 = ("lent", "a", ("own", 10), B10)
# x sends to 1 within its own realm, so that p never hears it
SHADOWED = World(("gate", "a", "", 5, Kind("one", "any")), ("host", "x", "a", 10), ("host", "z", "a", 1),
                 ("host", "y", "", 11), ("host", "p", "", 1))


def state(agent):
    return (agent.round, agent.learned, agent.result, agent.done)


def agreements(world):
    """All hosts x, y and helpers of a world with which there is an agreement."""
    return [(x, y, helper) for x in world.hosts for y in world.hosts for helper in world.stations("")
            if helper in world.hosts and x != y and helper not in (x, y)]


class StepsTest(Checks, unittest.TestCase):

    def test_the_example(self):
        agent = Agent(TALKERS, "x", "y", "p")
        self.assertEqual(len([step for step in agent.run()]), 3)
        self.assertEqual((agent.result[0], show_name(agent.result[1]), show_name(agent.result[2])),
                         (3, "b(10)", "a(10|b(10))"))

    def test_talkers_step_by_step(self):
        agent = Agent(world=TALKERS, x="x", y="y", helper="p")
        own = [(host, ("own", 10), host, ("own", 10)) for host in "xy"]
        self.assert_same(state(agent), (0, ((), ()), None, False))
        first = (("x", ("own", 1), "p", A1), own[0], ("y", ("own", 1), "p", B10), own[1])
        self.assert_same(agent.step(), first)
        self.assert_same(state(agent), (1, ((A1,), (B10,)), None, False))
        second = first[:2] + (("x", B10, "y", A_B10),) + first[2:]
        self.assert_same(agent.step(), second)
        self.assert_same(state(agent), (2, ((A1, A_B10), (B10,)), None, False))
        # y sent to b(10) never, but to a(10|b(10)), to which x sent from the same entry
        third = second + (("y", A_B10, "x", B10),)
        self.assert_same(agent.step(), third)
        self.assert_same(state(agent), (3, ((A1, A_B10), (B10,)), (3, B10, A_B10), True))

    def test_a_step_when_it_is_done(self):
        agent = Agent(TALKERS, "x", "y", "p")
        list(agent.run())
        before = state(agent)
        for _ in range(3):
            self.assert_same(agent.step(), ())
            self.assertEqual(state(agent), before)
        self.assertEqual(list(agent.run()), [])

    def test_own_names(self):
        agent = Agent(OPEN, "x", "y", "p")
        self.assert_same(agent.step(), (("x", ("own", 2), "y", ("own", 1)), ("x", ("own", 3), "p", ("own", 1)),
                                        ("y", ("own", 1), "x", ("own", 2)), ("y", ("own", 3), "p", ("own", 2))))
        self.assert_same(state(agent), (1, ((), ()), (1, ("own", 2), ("own", 1)), True))
        inner = World(("gate", "a", "", 5, Kind("one", "any")), ("host", "x", "a", 10), ("host", "y", "", 2),
                      ("host", "p", "", 1))
        agent = Agent(inner, "x", "y", "p")
        list(agent.run())
        self.assert_same(agent.result, (2, ("own", 2), ("lent", "a", ("own", 10), None)))

    def test_an_agreement_that_ends_without_a_result(self):
        agent = Agent(ONE, "x", "y", "p")
        steps = list(agent.run())
        self.assertIsNone(agent.result)
        self.assertIs(agent.done, True)
        self.assertEqual(agent.learned, ((A1, A7), (B1, B5)))
        # in round 4 y sends to a(10|7?) first, and the last two rounds bring nothing new
        self.assertEqual(agent.round, 6)
        self.assertEqual(len(steps), 6)
        self.assert_same(steps[4], steps[3])
        self.assert_same(steps[5], steps[3])
        self.assertEqual([row[2] for row in steps[3]], ["p", "x", "y", "p", "y", "x", "x"])
        strict = Agent(STRICT, "x", "y", "p")
        self.assertEqual([len(step) for step in strict.run()], [4, 5, 5, 5])
        self.assertEqual(strict.learned, ((A1,), (B1, B5)))

    def test_at_least_two_rounds_are_done(self):
        loose = Kind("one", "any")
        world = World(("gate", "a", "", 4, loose), ("gate", "b", "a", 3, loose), ("gate", "c", "", 9, loose),
                      ("gate", "d", "c", 3, loose), ("host", "z", "b", 7), ("host", "w", "c", 8), ("host", "p", "", 3))
        # both meet a gate where they send to the address of the helper, and go nowhere where they send to one another
        agent = Agent(world, "z", "w", "p")
        self.assertEqual([len(step) for step in agent.run()], [0, 0])
        self.assertEqual(state(agent), (2, ((), ()), None, True))

    def test_packets_to_other_hosts_and_to_the_sender_teach_nothing(self):
        agent = Agent(SHADOWED, "x", "y", "p")
        first = agent.step()
        self.assertIn(("x", ("own", 1), "z", ("own", 10)), first)
        self.assertIn(("x", ("own", 11), "y", ("lent", "a", ("own", 10), None)), first)
        other = World(("gate", "a", "", 5, Kind("one", "any", turns=True)), ("gate", "c", "a", 9, Kind("one", "any")),
                      ("host", "x", "c", 10), ("host", "z", "a", 1), ("host", "y", "", 10), ("host", "p", "", 1))
        agent = Agent(other, "x", "y", "p")
        # z sees c(10), and x hears itself where it sends to the own name of y
        self.assert_same(agent.step(), (("x", ("own", 1), "z", ("lent", "c", ("own", 10), None)),
                                        ("x", ("own", 10), "x", ("own", 10)), ("y", ("own", 1), "p", ("own", 10)),
                                        ("y", ("own", 10), "y", ("own", 10))))
        self.assertEqual(agent.learned, ((), ()))
        self.assertIs(agent.done, False)
        self.assertEqual([len(step) for step in agent.run()], [4, 4])
        self.assertEqual(state(agent), (3, ((), ()), None, True))

    def test_one_packet_if_both_are_one_name(self):
        world = World(("gate", "a", "", 5, Kind("one", "any")), ("host", "x", "a", 1), ("host", "y", "", 9),
                      ("host", "p", "", 1))
        agent = Agent(world, "x", "y", "p")
        first = agent.step()
        # y sends to the address 1 once, and x to 1 and to 9
        self.assertEqual([row[:3] for row in first], [("x", ("own", 1), "x"), ("x", ("own", 9), "y"), ("y", ("own", 1), "p")])

    def test_coming_in_is_judged_by_earlier_rounds(self):
        world = ONE.with_kind("a", Kind("one", "both")).with_kind("b", Kind("one", "both"))
        agent = Agent(world, "x", "y", "p")
        steps = list(agent.run())
        # both learn the names in round 1, send to them in round 2 in vain, and are heard in round 3
        self.assertEqual([len(step) for step in steps], [4, 4, 6])
        self.assertEqual(agent.result, (3, B10, ("lent", "a", ("own", 10), None)))

    def test_a_helper_tells_nothing_by_packets_and_blind_names_are_not_used(self):
        # in the closure y sends to ("blind", 5), so that b is open one round earlier
        world = ONE.with_kind("a", Kind("one", "far")).with_kind("b", Kind("one", "far"))
        self.assertEqual(Closure(world).first("x", "y"), 2)
        agent = Agent(world, "x", "y", "p")
        self.assertEqual([len(step) for step in agent.run()], [4, 4, 6])


class RunTest(Checks, unittest.TestCase):

    def test_run_is_a_generator(self):
        self.assertTrue(inspect.isgenerator(Agent(ONE, "x", "y", "p").run()))

    def test_a_run_begun_in_the_middle(self):
        agent = Agent(ONE, "x", "y", "p")
        steps = list(Agent(ONE, "x", "y", "p").run())
        self.assert_same([agent.step(), agent.step()], steps[:2])
        self.assert_same(list(agent.run()), steps[2:])

    def test_steps_between_those_of_a_run(self):
        agent = Agent(ONE, "x", "y", "p")
        steps = list(Agent(ONE, "x", "y", "p").run())
        found = []
        for step in agent.run():
            found += [step, agent.step()]
        self.assert_same(found, steps)

    def test_a_run_that_is_left(self):
        agent = Agent(ONE, "x", "y", "p")
        for step in agent.run():
            break
        self.assertEqual(agent.round, 1)
        next(agent.run())
        self.assertEqual(agent.round, 2)

    def test_a_twin_goes_on_alone(self):
        # in the last world packets are barred in round 2 that come in in round 3
        barring = ONE.with_kind("a", Kind("one", "both")).with_kind("b", Kind("one", "both"))
        for world in (ONE, STRICT, TALKERS, barring):
            steps = list(Agent(world, "x", "y", "p").run())
            for many in range(len(steps) + 1):
                agent = Agent(world, "x", "y", "p")
                for _ in range(many):
                    agent.step()
                before = state(agent)
                twin = agent.twin()
                self.assertIs(twin.__class__, Agent)
                self.assertEqual(state(twin), before)
                self.assert_same(list(twin.run()), steps[many:])
                self.assertEqual(state(agent), before)
                other = agent.twin()
                self.assert_same(list(agent.run()), steps[many:])
                self.assertEqual(state(other), before)
                self.assert_same(list(other.run()), steps[many:])


class ErrorsTest(Checks, unittest.TestCase):

    def test_wrong_hosts_in_their_order(self):
        for value in values_but(["x", "y", "p"]):
            self.assert_raises(NoStation, {"name": value}, Agent, ONE, value, "y", "p")
            self.assert_raises(NoStation, {"name": value}, Agent, ONE, "x", value, "p")
            self.assert_raises(NoStation, {"name": value}, Agent, ONE, "x", "y", value)
            self.assert_raises(NoStation, {"name": value}, Agent, ONE, value, None, [])
            self.assert_raises(NoStation, {"name": value}, Agent, ONE, "x", "x", value)
            self.assert_raises(NoStation, {"name": value}, Agent, ONE, "x", value, "x")

    def test_hosts_that_are_one(self):
        self.assert_raises(NoStation, {"name": "x"}, Agent, ONE, "x", "x", "p")
        self.assert_raises(NoStation, {"name": "p"}, Agent, ONE, "p", "p", "x")
        self.assert_raises(NoStation, {"name": "p"}, Agent, ONE, "p", "y", "p")
        self.assert_raises(NoStation, {"name": "p"}, Agent, ONE, "x", "p", "p")

    def test_a_helper_behind_a_gate(self):
        world = ONE.with_part(("host", "z", "a", 11))
        self.assert_raises(NoStation, {"name": "z"}, Agent, world, "x", "y", "z")
        self.assert_raises(NoStation, {"name": "x"}, Agent, world, "x", "x", "z")
        self.assert_raises(NoStation, {"name": "b"}, Agent, world, "x", "y", "b")

    def test_attributes_are_only_read(self):
        agent = Agent(ONE, "x", "y", "p")
        for name in ("round", "learned", "result", "done"):
            with self.assertRaises(AttributeError):
                setattr(agent, name, 1)

    def test_no_value_is_an_agent(self):
        agent = Agent(ONE, "x", "y", "p")
        for value in any_values():
            self.assertFalse(agent == value)


class ManyWorldsTest(Checks, unittest.TestCase):

    def check(self, world, x, y, helper):
        agent, model = Agent(world, x, y, helper), AgentModel(world, x, y, helper)
        quiet = 0
        while not agent.done:
            self.assertTrue(quiet < 2)
            self.assert_same(agent.step(), model.step())
            quiet = quiet + 1 if model.quiet() else 0
            self.assertEqual(agent.round, len(model.rounds))
            self.assert_same(agent.learned, (model.learned(x), model.learned(y)))
            self.assert_same(agent.result, model.result())
        self.assertTrue(agent.result is not None or quiet == 2)
        if agent.result is not None:
            self.assertIsNotNone(even(world, x, y))
            self.assertEqual(talk(world, x, y)[0], "talk")
        return agent.result

    def test_worlds_of_the_document(self):
        for world in (ONE, STRICT, INNER, CHAIN, DEEP, SIX, TALKERS, OPEN, BIG, SHADOWED):
            for x, y, helper in agreements(world):
                self.check(world, x, y, helper)

    def test_random_worlds(self):
        rounds = []
        for seed in range(250):
            world = random_world(random.Random(seed), gates=4, hosts=5, last=12)
            for x, y, helper in agreements(world):
                result = self.check(world, x, y, helper)
                rounds.append(0 if result is None else result[0])
        self.assertLessEqual({0, 1, 2, 3}, set(rounds))


if __name__ == "__main__":
    unittest.main()
