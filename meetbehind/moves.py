"""Rounds behind an event, from what is left of the rounds before it."""

from meetbehind.books import book_of
from meetbehind.course import Course
from meetbehind.errors import NoStation
from meetbehind.given import check_host
from meetbehind.leftovers import event_in, Leftovers, roads_behind
from meetbehind.roads import roads_of


def book_after(world, event):
    """The right book of the rounds behind an event."""
    return book_of(_course_behind(world, event, None))


def back(world, gate, x, y):
    """The round behind the fall of the gate in which y hears x first, or None."""
    if gate not in world.gates:
        raise NoStation(gate)
    check_host(world, x)
    check_host(world, y)
    return _first_behind(world, ("falls", gate), x, y)


def heard_again(world, host, realm, x, y):
    """The round behind the move of the host to the realm in which y hears x first, or None."""
    check_host(world, host)
    check_host(world, x)
    check_host(world, y)
    return _first_behind(world, ("moves", host, realm), x, y)


def _first_behind(world, event, x, y):
    """The round behind an event in which y hears x first, or None."""
    row = _course_behind(world, event, (x, y)).first_row(x, y)
    return None if row is None else row[0]


def _course_behind(world, event, goal):
    """The rounds behind an event, done until the second of two hosts hears the first, if goal is a pair of hosts."""
    after = event_in(world, event)
    roads = roads_of(world)
    rest = Leftovers(roads, world.hosts, event)
    return Course(roads_behind(roads, event, after), after.hosts, rest.left, rest.opened, goal)
