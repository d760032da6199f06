"""Bounds, which show that a host does not hear another one before a round, or never."""

from meetbehind.course import Course
from meetbehind.errors import Heard
from meetbehind.given import check_host, given_speakers
from meetbehind.names import show_name
from meetbehind.roads import roads_of


def late(world, x, y, *, speakers=None):
    """The bound that shows that y does not hear x before the round in which it does so first, or that it never does."""
    check_host(world, x)
    check_host(world, y)
    return bound_in(Course(roads_of(world), given_speakers(world, speakers), goal=(x, y)), x, y)


def bound_in(course, x, y):
    """The bound for x and y, as late tells it, of rounds that were done."""
    row = course.first_row(x, y)
    number = None if row is None else row[0]
    told = [(course.since[name], name) for name in course.since if number is None or course.since[name] < number]
    return (number, tuple(sorted(told, key=lambda pair: (pair[0], show_name(pair[1])))))


def reasons(world, x, y, *, speakers=None):
    """If y never hears x, a row (name, word, place) for each known name to which a packet of x is lost."""
    check_host(world, x)
    check_host(world, y)
    speaking = given_speakers(world, speakers)
    roads = roads_of(world)
    course = Course(roads, speaking)
    row = course.first_row(x, y)
    if row is not None:
        raise Heard(row[0])
    if x in speaking:
        for name in sorted(roads.at_first() + list(course.since), key=show_name):
            end = _end_of(roads.packet(x, name), course.opened)
            if end[0] == "lost":
                yield (name, end[1], end[2])


def _end_of(packet, opened):
    """What becomes of a packet to a known name, if all in the dict opened was opened."""
    for pair in packet.needs or []:
        if pair not in opened:
            return ("lost", "barred", pair[0][1])
    return packet.end
