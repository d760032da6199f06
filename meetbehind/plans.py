"""Plans by which a host hears another one."""

from meetbehind.course import Course
from meetbehind.given import check_host, given_speakers
from meetbehind.names import show_name
from meetbehind.naming import owner_of
from meetbehind.roads import roads_of
from meetbehind.trials import Attempt


def reach(world, x, y, *, speakers=None):
    """A plan with the fewest rounds in which y hears x, or all names that are told if y never does."""
    check_host(world, x)
    check_host(world, y)
    course = Course(roads_of(world), given_speakers(world, speakers), goal=(x, y))
    row = course.first_row(x, y)
    if row is None:
        return ("never", tuple(sorted(list(course.since), key=show_name)))
    return ("heard", plan_rows(course, [row[:3]]))


def plan_rows(course, goals):
    """The rows of a plan by which the packet of each row in goals is delivered in its round, as in the course."""
    rows = {}
    delivered = {}
    waiting = list(goals)
    while waiting:
        row = waiting.pop()
        if row in delivered:
            continue
        delivered[row] = True
        # each row of these is in an earlier round, so this comes to an end
        for number, host, name in [row] + _opening_rows(course, row):
            rows[(number, host, name)] = True
            if name[0] == "lent":
                waiting.append((course.since[name],) + course.tellers[name])
    return tuple(sorted(list(rows), key=lambda row: (row[0], row[1], course.roads.text(row[2]))))


def _opening_rows(course, row):
    """The rows that open what the packet of a row needs to be delivered, each in the first round that it can."""
    _, host, name = row
    opened = []
    for pair in course.roads.packet(host, name).needs:
        number, target = course.opened[pair]
        opened.append((number, owner_of(course.roads, pair[0]), target))
    return opened


def play(net, rows):
    """Sends the rows of a plan one after another in a network that knows names; the results."""
    with Attempt(net):
        results = [net.send_to(row[1], row[2]) for row in rows]
    return tuple(results)
