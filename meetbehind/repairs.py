"""Gates that must be looser so that a host hears another one."""

from meetbehind.course import is_heard
from meetbehind.families import least_sets
from meetbehind.given import check_host, given_gates
from meetbehind.kinds import Kind
from meetbehind.roads import kinds_of, roads_of


def repairs(world, x, y):
    """All least sets of gates with which y hears x if these are as loose as can be."""
    check_host(world, x)
    check_host(world, y)
    roads = roads_of(world)
    kinds = kinds_of(world)
    return least_sets(world.gates, lambda gates: is_heard(roads.with_kinds(_loosened(kinds, gates)), world.hosts, x, y))


def opened(world, gates):
    """The world in which these gates are as loose as can be."""
    return world.with_kinds(_loosened(kinds_of(world), given_gates(world, gates)))


def _loosened(kinds, gates):
    """A dict from gates to kinds, but that these gates are as loose as can be."""
    loosest = Kind("one", "any", turns=True)
    return {gate: loosest if gate in gates else kinds[gate] for gate in kinds}
