"""Whether any value is a plan by which a host hears another one."""

from meetbehind.checks import is_round
from meetbehind.given import check_host, given_speakers
from meetbehind.judge import Judge
from meetbehind.names import is_name, show_name
from meetbehind.roads import roads_of


def shows_plan(world, x, y, thing, *, speakers=None):
    """Whether any value is a plan in whose last round y hears x."""
    check_host(world, x)
    check_host(world, y)
    return is_plan_for(world, roads_of(world), given_speakers(world, speakers), x, y, thing)


def is_plan_for(world, roads, speakers, x, y, thing):
    """Whether any value is a plan of these speakers, by the packets of roads, in whose last round y hears x."""
    heard = heard_in_plan(world, roads, speakers, thing)
    return heard is not None and heard.get((x, y)) == thing[-1][0]


def heard_in_plan(world, roads, speakers, thing):
    """A dict from the pairs of a sender and a host that hears it to the last round in which it does so.

    None for any value that is no plan of these speakers, by the packets of roads.
    """
    if not _has_form(world, speakers, thing):
        return None
    by_round = {}
    for number, host, name in thing:
        by_round.setdefault(number, []).append(roads.packet(host, name))
    judge = Judge()
    seen_names = {}
    heard = {}
    for number in by_round:
        packets = by_round[number]
        if any([packet.name[0] == "lent" and packet.name not in seen_names for packet in packets]):
            return None
        for packet in judge.do_round(packets):
            hearer = packet.end[1]
            heard[(packet.host, hearer)] = number
            if hearer in speakers and roads.is_told(packet.shows[-1]):
                seen_names[packet.shows[-1]] = True
    return heard


def _has_form(world, speakers, thing):
    """Whether any value is a tuple of one row or more, sorted, each of a speaker and any name of the world."""
    if not isinstance(thing, tuple) or not thing or not all([_is_row(world, speakers, row) for row in thing]):
        return False
    places = [(number, host, show_name(name)) for number, host, name in thing]
    return all([before < behind for before, behind in zip(places, places[1:])])


def _is_row(world, speakers, row):
    """Whether any value is a row of a speaker and any name of the world."""
    return (isinstance(row, tuple) and len(row) == 3
            and is_round(row[0]) and row[1] in speakers and is_name(world, row[2]))
