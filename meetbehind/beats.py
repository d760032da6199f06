"""How slowly rounds may be done if entries end: a plan is then done again and again, every so many time units."""

from meetbehind.checks import is_round
from meetbehind.course import Course
from meetbehind.given import check_host, given_speakers
from meetbehind.late import bound_in
from meetbehind.latecheck import is_never_for
from meetbehind.plancheck import is_plan_for
from meetbehind.plans import plan_rows
from meetbehind.roads import roads_of


def slowest(world, x, y, *, speakers=None):
    """The greatest number of time units between rounds with which y hears x, and a plan; or why y never does."""
    check_host(world, x)
    check_host(world, y)
    speaking = given_speakers(world, speakers)
    for beat in _beats(world):
        course = Course(roads_of(world, _forgetting(world, beat)), speaking, goal=(x, y))
        row = course.first_row(x, y)
        if row is not None:
            return ("beat", beat, plan_rows(course, [row[:3]]))
    return ("never", bound_in(Course(roads_of(world), speaking), x, y))


def shows_beat(world, x, y, thing, *, speakers=None):
    """Whether any value has the form of what slowest returns, and holds."""
    check_host(world, x)
    check_host(world, y)
    speaking = given_speakers(world, speakers)
    if not isinstance(thing, tuple) or len(thing) < 2:
        return False
    if thing[0] == "never" and len(thing) == 2:
        return is_never_for(world, roads_of(world), speaking, x, y, thing[1])
    if thing[0] != "beat" or len(thing) != 3 or not (thing[1] is None or is_round(thing[1])):
        return False
    _, beat, rows = thing
    # as y hears x with this beat, no greater one does it just if this is the greatest
    return (is_plan_for(world, roads_of(world, _forgetting(world, beat)), speaking, x, y, rows)
            and slowest(world, x, y, speakers=speaking)[1] == beat)


def _beats(world):
    """The beats behind which other gates forget, from the slowest on; None is any beat."""
    spans = [world.kind(gate).rests for gate in world.gates]
    ends = sorted(set([span for span in spans if span is not None]))
    return [None] + [span - 1 for span in ends[::-1]]


def _forgetting(world, beat):
    """The gates that forget their entries between rounds with this beat; with None all that rest."""
    resting = [gate for gate in world.gates if world.kind(gate).rests is not None]
    return tuple([gate for gate in resting if beat is None or world.kind(gate).rests <= beat])
