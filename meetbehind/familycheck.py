"""Whether any value shows by plans and bounds which sets of items are the least ones."""

from meetbehind.families import blockers
from meetbehind.latecheck import is_never_for
from meetbehind.plancheck import is_plan_for
from meetbehind.questions import check_family, items_of, setting
from meetbehind.roads import roads_of


def shows_family(world, x, y, question, thing):
    """Whether any value has the form of what shown_family returns, and is right."""
    check_family(world, x, y, question)
    if not isinstance(thing, tuple) or len(thing) != 2 or not all([_has_pairs(part) for part in thing]):
        return False
    plans, bounds = thing
    every = items_of(world, question)
    least = tuple([part for part, _ in plans])
    if not _are_least_sets(every, least) or tuple([part for part, _ in bounds]) != blockers(least):
        return False
    roads = roads_of(world)
    return (all([_is_enough(world, roads, x, y, question, part, rows) for part, rows in plans])
            and all([_is_blocking(world, roads, x, y, question, part, bound) for part, bound in bounds]))


def _has_pairs(thing):
    """Whether any value is a tuple of pairs."""
    return isinstance(thing, tuple) and all([isinstance(pair, tuple) and len(pair) == 2 for pair in thing])


def _are_least_sets(every, sets):
    """Whether values are ascending tuples of items, by length, then ascending, and none is within another one."""
    if not all([isinstance(part, tuple) and part == tuple([item for item in every if item in part]) for part in sets]):
        return False
    places = [(len(part), part) for part in sets]
    if not all([before < behind for before, behind in zip(places, places[1:])]):
        return False
    # a set can only be within one that stands behind it
    return not any([all([item in other for item in part]) for at, part in enumerate(sets) for other in sets[at + 1:]])


def _is_enough(world, roads, x, y, question, part, rows):
    """Whether any value is a plan in which y hears x with these items."""
    other, packets, speakers = setting(world, roads, question, part)
    return is_plan_for(other, packets, speakers, x, y, rows)


def _is_blocking(world, roads, x, y, question, part, bound):
    """Whether any value is a bound which shows that y never hears x without these items."""
    rest = tuple([item for item in items_of(world, question) if item not in part])
    other, packets, speakers = setting(world, roads, question, rest)
    return is_never_for(other, packets, speakers, x, y, bound)
