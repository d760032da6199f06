"""Whether any value is a right bound."""

from meetbehind.checks import is_round
from meetbehind.earliest import earliest_rows, listed_rounds, rounds_of_all
from meetbehind.given import check_host, given_speakers
from meetbehind.roads import roads_of


def shows_late(world, x, y, thing, *, speakers=None):
    """Whether any value is a right bound for x and y."""
    check_host(world, x)
    check_host(world, y)
    return _is_bound_for(world, roads_of(world), given_speakers(world, speakers), x, y, thing)


def is_never_for(world, roads, speakers, x, y, thing):
    """Whether any value is a right bound of these speakers, by the packets of roads: that y never hears x."""
    return _is_bound_for(world, roads, speakers, x, y, thing) and thing[0] is None


def _is_bound_for(world, roads, speakers, x, y, thing):
    """Whether any value is a right bound of these speakers, by the packets of roads, for x and y."""
    if not isinstance(thing, tuple) or len(thing) != 2 or not (thing[0] is None or is_round(thing[0])):
        return False
    listed = listed_rounds(world, thing[1])
    if listed is None:
        return False
    told = rounds_of_all(roads, (), listed)
    for number, sender, _, host, source in earliest_rows(roads, speakers, told, ()):
        if thing[0] is not None and number >= thing[0]:
            continue
        if sender == x and host == y:
            return False
        # own names are told in round 0
        if host in speakers and (source not in told or told[source] > number):
            return False
    return True
