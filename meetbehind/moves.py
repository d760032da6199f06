"""Rounds behind an event, from what is left of the rounds before it."""

from meetbehind.books import book_of, first_in
from meetbehind.course import Course
from meetbehind.errors import NoStation
from meetbehind.given import check_host
from meetbehind.leftovers import event_in, Leftovers


def book_after(world, event):
    """The right book of the rounds behind an event."""
    after = event_in(world, event)
    rest = Leftovers(world, event)
    return book_of(Course(after, after.hosts, (), rest.left, rest.opened))


def back(world, gate, x, y):
    """The round behind the fall of the gate in which y hears x first, or None."""
    if gate not in world.gates:
        raise NoStation(gate)
    check_host(world, x)
    check_host(world, y)
    return first_in(book_after(world, ("falls", gate)), x, y)


def heard_again(world, host, realm, x, y):
    """The round behind the move of the host to the realm in which y hears x first, or None."""
    check_host(world, host)
    check_host(world, x)
    check_host(world, y)
    return first_in(book_after(world, ("moves", host, realm)), x, y)
