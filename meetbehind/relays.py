"""Hosts that talk with two others, and groups of hosts that talks join."""

from meetbehind.course import Course
from meetbehind.given import check_host
from meetbehind.roads import roads_of


def relays(world, x, y):
    """The hosts, other than both, that talk with x and with y, ascending."""
    check_host(world, x)
    check_host(world, y)
    pairs = _talking_pairs(world)
    others = [name for name in world.hosts if name not in (x, y)]
    return tuple([name for name in others if (name, x) in pairs and (name, y) in pairs])


def groups(world):
    """Groups of hosts that chains of talks join, each ascending; each host is in one of them."""
    pairs = _talking_pairs(world)
    found = []
    for name in world.hosts:
        near = [group for group in found if any([(name, other) in pairs for other in group])]
        apart = [group for group in found if group not in near]
        # the host joins groups that no talk has joined so far
        found = apart + [[other for group in near for other in group] + [name]]
    return tuple(sorted([tuple(sorted(group)) for group in found]))


def _talking_pairs(world):
    """A dict of the pairs of hosts that hear each other, a host and itself among them."""
    heard = {(row[1], row[3]): True for row in Course(roads_of(world), world.hosts).rows}
    return {(x, y): True for x, y in heard if (y, x) in heard}
