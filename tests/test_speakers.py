"""Who must speak ([23])."""

import random
import unittest

from meetbehind.closure import Closure
from meetbehind.errors import NoStation, NotHeard
from meetbehind.questions import family
from meetbehind.speakers import least_speakers, needed
from meetbehind.worlds import World
from tests.model import random_world
from tests.samples import BIG, Checks, CHAIN, DEEP, DRIFT, INNER, ONE, SIX, STRICT, values_but


class LeastSpeakersTest(Checks, unittest.TestCase):

    def test_the_example(self):
        self.assert_same([least_speakers(ONE, "x", "y"), needed(ONE, "y", "x")], [(("p", "x", "y"),), ("p", "x", "y")])
        self.assert_same(least_speakers(world=ONE, x="x", y="p"), (("x",),))

    def test_one_host(self):
        self.assert_same(least_speakers(ONE, "x", "x"), (("x",),))
        self.assert_same(needed(world=ONE, x="x", y="x"), ("x",))

    def test_never(self):
        self.assert_same(least_speakers(STRICT, "x", "y"), ())
        self.assert_raises(NotHeard, {"host": "y"}, needed, STRICT, "x", "y")

    def test_one_of_two_is_enough(self):
        world = ONE.with_part(("host", "q", "", 2))
        self.assert_same(least_speakers(world, "x", "y"), (("p", "x", "y"), ("q", "x", "y")))
        self.assert_same(needed(world, "x", "y"), ("x", "y"))
        self.assert_same(least_speakers(ONE.with_part(("host", "h", "a", 3)), "x", "y"), (("p", "x", "y"),))

    def test_it_is_the_first_part_of_the_family(self):
        for world in (ONE, STRICT, INNER, CHAIN, DEEP, SIX, DRIFT, BIG):
            for x in world.hosts:
                self.assert_same(least_speakers(world, x, world.hosts[0]), family(world, x, world.hosts[0], "speakers")[0])

    def check(self, world, x, y):
        least = least_speakers(world, x, y)
        self.assertEqual(list(least), sorted(least, key=lambda part: (len(part), part)))
        for part in least:
            self.assertIn(x, part)
            self.assertEqual(list(part), sorted(set(part)))
            self.assertTrue(Closure(world, speakers=part).heard(x, y))
            for host in part:
                self.assertFalse(Closure(world, speakers=[name for name in part if name != host]).heard(x, y))
        if least:
            self.assert_same(needed(world, x, y), tuple(sorted(set(least[0]).intersection(*least))))
        else:
            self.assertFalse(Closure(world).heard(x, y))
            self.assert_raises(NotHeard, {"host": y}, needed, world, x, y)

    def test_worlds_of_the_document(self):
        for world in (ONE, STRICT, INNER, CHAIN, DEEP, SIX, DRIFT):
            for x in world.hosts:
                for y in world.hosts:
                    self.check(world, x, y)

    def test_random_worlds(self):
        for seed in range(60):
            rng = random.Random(seed)
            world = random_world(rng, gates=4, hosts=6, last=20)
            self.check(world, rng.choice(world.hosts), rng.choice(world.hosts))

    def test_more_speakers_never_do_harm(self):
        for seed in range(60):
            rng = random.Random(seed)
            world = random_world(rng, gates=4, hosts=5, last=12)
            few = [name for name in world.hosts if rng.random() < 0.5]
            more = few + [name for name in world.hosts if rng.random() < 0.5]
            lesser, greater = Closure(world, speakers=few), Closure(world, speakers=more)
            for x in world.hosts:
                for y in world.hosts:
                    if lesser.heard(x, y):
                        self.assertLessEqual(greater.first(x, y), lesser.first(x, y))

    def test_wrong_hosts(self):
        for value in values_but(["x", "y", "p"]):
            for ask in (least_speakers, needed):
                for world in (ONE, STRICT):
                    self.assert_raises(NoStation, {"name": value}, ask, world, value, "x")
                    self.assert_raises(NoStation, {"name": value}, ask, world, "x", value)
                    self.assert_raises(NoStation, {"name": value}, ask, world, value, None)
        self.assert_raises(NoStation, {"name": "q"}, needed, World(), "q", "r")


if __name__ == "__main__":
    unittest.main()
