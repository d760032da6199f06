"""Whether any value is the right book."""

from meetbehind.checks import is_same
from meetbehind.earliest import earliest_rows, listed_rounds, rounds_of_all
from meetbehind.given import given_speakers
from meetbehind.leftovers import event_in, Leftovers, roads_behind
from meetbehind.names import show_name
from meetbehind.roads import roads_of


def shows_book(world, thing, *, speakers=None):
    """Whether any value is the right book of a world and speakers."""
    return _is_book(world, roads_of(world), given_speakers(world, speakers), (), (), thing)


def shows_book_after(world, event, thing):
    """Whether any value is the right book of the rounds behind an event."""
    after = event_in(world, event)
    roads = roads_of(world)
    rest = Leftovers(roads, world.hosts, event)
    return _is_book(after, roads_behind(roads, event, after), after.hosts, rest.left, rest.opened, thing)


def _is_book(world, roads, speakers, names, opened, thing):
    """Whether any value is the right book if these lent names were known, and all this was opened, before round 1."""
    if not isinstance(thing, tuple) or len(thing) != 2:
        return False
    listed = listed_rounds(world, thing[0])
    if listed is None or not _is_sorted(thing[0]):
        return False
    # a name that was known before round 1 cannot be listed, as no row tells it
    rows = earliest_rows(roads, speakers, rounds_of_all(roads, names, listed), opened)
    return is_same(thing[1], tuple(rows)) and _told_by(speakers, rows, names) == listed


def _is_sorted(pairs):
    """Whether pairs (told, name) are sorted by told, then by text."""
    places = [(number, show_name(name)) for number, name in pairs]
    return places == sorted(places)


def _told_by(speakers, rows, names):
    """The dict from all lent names but these that the speakers see in the rows to the least rounds in which they do."""
    told = {}
    for number, _, _, host, source in rows:
        # rows are sorted by round
        if host in speakers and source[0] == "lent" and source not in names and source not in told:
            told[source] = number
    return told
