"""Talks, in which each of two hosts hears the other one, and meetings of more hosts."""

from meetbehind.course import Course
from meetbehind.given import check_two_hosts, given_among, given_speakers
from meetbehind.late import bound_in
from meetbehind.latecheck import is_never_for
from meetbehind.names import show_name
from meetbehind.naming import plain_in
from meetbehind.plancheck import heard_in_plan, is_plan_for
from meetbehind.plans import plan_rows
from meetbehind.roads import roads_of


def talk(world, x, y, *, speakers=None):
    """A plan in which each of two hosts hears the other one as early as it can, or why this is not so."""
    check_two_hosts(world, x, y)
    course = Course(roads_of(world), given_speakers(world, speakers))
    there = course.first_row(x, y)
    back = course.first_row(y, x)
    if there is None and back is None:
        return ("never", bound_in(course, x, y), bound_in(course, y, x))
    if back is None:
        return ("one way", y, plan_rows(course, [there[:3]]), bound_in(course, y, x))
    if there is None:
        return ("one way", x, plan_rows(course, [back[:3]]), bound_in(course, x, y))
    return ("talk", plan_rows(course, [there[:3], back[:3]]))


def shows_talk(world, x, y, thing, *, speakers=None):
    """Whether any value has the form of what talk returns, and holds."""
    check_two_hosts(world, x, y)
    speaking = given_speakers(world, speakers)
    roads = roads_of(world)
    if not isinstance(thing, tuple) or len(thing) < 2:
        return False
    if thing[0] == "talk" and len(thing) == 2:
        heard = heard_in_plan(world, roads, speaking, thing[1])
        return heard is not None and (x, y) in heard and (y, x) in heard
    if thing[0] == "one way" and len(thing) == 4:
        _, hearer, rows, bound = thing
        if hearer not in (x, y):
            return False
        other = y if hearer == x else x
        return (is_plan_for(world, roads, speaking, other, hearer, rows)
                and is_never_for(world, roads, speaking, hearer, other, bound))
    if thing[0] == "never" and len(thing) == 3:
        return (is_never_for(world, roads, speaking, x, y, thing[1])
                and is_never_for(world, roads, speaking, y, x, thing[2]))
    return False


def meeting(world, hosts, *, speakers=None):
    """A plan after which each of the hosts has heard each other one, or the first pair for which there is none."""
    present = given_among(hosts, world.hosts)
    course = Course(roads_of(world), given_speakers(world, speakers))
    goals = []
    for x in present:
        for y in present:
            row = course.first_row(x, y)
            if x != y and row is None:
                return ("not", x, y, bound_in(course, x, y))
            if x != y:
                goals.append(row[:3])
    return ("all", plan_rows(course, goals))


def even(world, x, y, *, speakers=None):
    """The first pair of names by which a talk is even, or None."""
    check_two_hosts(world, x, y)
    course = Course(roads_of(world), given_speakers(world, speakers))
    return even_names(world, x, y, [row[1:] for row in course.rows])


def even_names(world, x, y, rows):
    """The first pair of names by which a talk is even if the packets of rows (sender, name, host, source) arrive."""
    shown = {row[1]: row[3] for row in rows if row[0] == y and row[2] == x}
    pairs = [(row[1], row[3]) for row in rows
             if row[0] == x and row[2] == y and row[3] in shown and shown[row[3]] == row[1]]
    evens = [pair for pair in pairs if plain_in(world, pair[0], ()) or plain_in(world, pair[1], ())]
    return min(evens, key=lambda pair: (show_name(pair[0]), show_name(pair[1])), default=None)
