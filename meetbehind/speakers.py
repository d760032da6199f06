"""Which hosts must speak so that a host hears another one."""

from meetbehind.course import is_heard
from meetbehind.errors import NotHeard
from meetbehind.given import check_host
from meetbehind.questions import family
from meetbehind.roads import roads_of


def least_speakers(world, x, y):
    """All least sets of hosts with which y hears x."""
    return family(world, x, y, "speakers")[0]


def needed(world, x, y):
    """The hosts without which y never hears x."""
    check_host(world, x)
    check_host(world, y)
    roads = roads_of(world)
    if not is_heard(roads, world.hosts, x, y):
        raise NotHeard(y)
    return tuple([name for name in world.hosts if not is_heard(roads, _all_but(world.hosts, name), x, y)])


def _all_but(hosts, name):
    """The hosts without one of them."""
    return tuple([host for host in hosts if host != name])
