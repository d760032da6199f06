"""The earliest rounds of packets, worked out from the rounds in which names are said to be told."""

from meetbehind.checks import is_round
from meetbehind.names import is_name


def listed_rounds(world, thing):
    """A dict from lent names to the rounds in which they are told, of a tuple of pairs (told, name).

    None for any value that is no such tuple, or in which a name stands twice.
    """
    if not isinstance(thing, tuple):
        return None
    told = {}
    for pair in thing:
        if not isinstance(pair, tuple) or len(pair) != 2 or not is_round(pair[0]):
            return None
        if not is_name(world, pair[1]) or pair[1][0] != "lent" or pair[1] in told:
            return None
        told[pair[1]] = pair[0]
    return told


def rounds_of_all(roads, names, listed):
    """The dict from names to the rounds in which they are told, of listed ones and of those known before round 1.

    Before the first round the own and blind names of the world are known, and these lent names.
    """
    told = {name: 0 for name in roads.at_first() + list(names)}
    for name in listed:
        told[name] = listed[name]
    return told


def earliest_rows(roads, speakers, told, opened):
    """A row (round, sender, name, host, source) for each pair of a speaker and a name of told that is delivered.

    told is a dict from all names to which the speakers send to the rounds in which they are told, 0 for those that
    are known before the first round; the keys of opened are what was opened before it. Rows are sorted.
    """
    packets = roads.packets(speakers, list(told))
    open_from = {pair: 0 for pair in opened}
    for packet in packets:
        # what is told in a round is sent to in the next one, and counts from the round behind that
        number = told[packet.name] + 2
        for pair in packet.gives:
            open_from[pair] = min(number, open_from.get(pair, number))
    rows = []
    for packet in packets:
        if packet.needs is not None and all([pair in open_from for pair in packet.needs]):
            number = max([told[packet.name] + 1] + [open_from[pair] for pair in packet.needs])
            rows.append((number, packet.host, packet.name, packet.end[1], packet.shows[-1]))
    return sorted(rows, key=lambda row: (row[0], row[1], roads.text(row[2])))
