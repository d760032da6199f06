"""Gates that must be looser so that a host hears another one."""

from meetbehind.course import is_heard
from meetbehind.families import least_sets
from meetbehind.given import check_host, given_gates
from meetbehind.kinds import Kind


def repairs(world, x, y):
    """All least sets of gates with which y hears x if these are as loose as can be."""
    check_host(world, x)
    check_host(world, y)
    return least_sets(world.gates, lambda gates: is_heard(opened(world, gates), x, y))


def opened(world, gates):
    """The world in which these gates are as loose as can be."""
    for gate in given_gates(world, gates):
        world = world.with_kind(gate, Kind("one", "any", turns=True))
    return world
