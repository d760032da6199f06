"""Packets by names: what they show, what they open, and what they need to be delivered."""

from meetbehind.given import check_host, given_gates
from meetbehind.names import check_name, show_name
from meetbehind.naming import address_in, lent_chain, owner_of, plain_in, shown_names
from meetbehind.routes import gates_out, route


class Packet:
    """A packet of a host to a name.

    shows is a tuple of the sources that it has, one behind the other; enters a list of the lent names by whose
    entries it has to come in, in order; end what becomes of it if all of them let it in.
    """

    def __init__(self, world, host, name, forgets):
        self.host = host
        self.name = name
        course = route(world, world.realm(host), address_in(world, name))
        self.shows = shown_names(world, gates_out(world, course), host, name, forgets)
        self.enters = []
        self.end = self._end(world, course)

    def _end(self, world, course):
        """What becomes of the packet where its route ends, and behind the gates at which it comes in there."""
        word, _, place = course
        if word == "nowhere":
            return ("lost", "nowhere", "")
        if word == "turn" and not world.kind(place).turns:
            return ("lost", "unturned", place)
        if place in world.hosts:
            return ("heard", place) if self.name[0] == "own" else ("lost", "port", place)
        if self.name[:2] != ("lent", place):
            return ("lost", "closed", place)
        self.enters = lent_chain(self.name)
        return ("heard", owner_of(world, self.name))


def opening(world, entry, name):
    """What a packet to the name opens at an entry by which it goes out: a pair, or None where nothing needs it."""
    lets = world.kind(entry[1]).lets
    if lets == "any":
        return None
    return (entry, address_in(world, name) if lets == "far" else name)


def openings(world, packet):
    """All that a packet opens."""
    pairs = [opening(world, entry, packet.name) for entry in packet.shows[1:]]
    return [pair for pair in pairs if pair is not None]


def is_shut(world, entry, source, forgets):
    """Whether an entry, at a gate that does not forget, lets in no packet with this source, whatever was sent."""
    return world.kind(entry[1]).lets == "both" and not plain_in(world, source, forgets)


def is_barred(world, entry, source, opened, forgets):
    """Whether an entry, at a gate that does not forget, bars a source if all in the dict opened was opened."""
    needed = opening(world, entry, source)
    return is_shut(world, entry, source, forgets) or (needed is not None and needed not in opened)


def walk(world, sends, host, name, *, forgets=()):
    """What becomes of a packet of the host to the name, if the pairs in sends were sent in earlier rounds."""
    check_host(world, host)
    check_name(world, name)
    forgetting = given_gates(world, forgets)
    packet = Packet(world, host, name, forgetting)
    pairs = sorted(sends, key=lambda pair: (pair[0], show_name(pair[1])))
    # only packets of the owner of the name go out by the entries that are needed
    keeper = owner_of(world, name)
    sent = [Packet(world, keeper, pair[1], forgetting) for pair in pairs if pair[0] == keeper]
    made = {entry: True for other in sent + [packet] for entry in other.shows}
    opened = {pair: True for other in sent for pair in openings(world, other)}
    for entry in packet.enters:
        if entry[1] in forgetting or entry not in made:
            return ("lost", "closed", entry[1])
        if is_barred(world, entry, packet.shows[-1], opened, forgetting):
            return ("lost", "barred", entry[1])
    if packet.end[0] == "lost":
        return packet.end
    return ("heard", packet.end[1], packet.shows[-1])
