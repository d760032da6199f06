"""What becomes of one packet by names."""

from meetbehind.given import check_host, given_gates
from meetbehind.names import check_name, show_name
from meetbehind.naming import owner_of
from meetbehind.roads import roads_of


def walk(world, sends, host, name, *, forgets=()):
    """What becomes of a packet of the host to the name, if the pairs in sends were sent in earlier rounds."""
    check_host(world, host)
    check_name(world, name)
    forgetting = given_gates(world, forgets)
    roads = roads_of(world, forgetting)
    packet = roads.packet(host, name)
    pairs = sorted(sends, key=lambda pair: (pair[0], show_name(pair[1])))
    # only packets of the owner of the name go out by the entries that are needed
    keeper = owner_of(world, name)
    sent = [roads.packet(keeper, pair[1]) for pair in pairs if pair[0] == keeper]
    made = {entry: True for other in sent + [packet] for entry in other.shows}
    opened = {pair: True for other in sent for pair in other.gives}
    for entry in packet.enters:
        if entry[1] in forgetting or entry not in made:
            return ("lost", "closed", entry[1])
        if any([pair[0] == entry and pair not in opened for pair in packet.needs]):
            return ("lost", "barred", entry[1])
    if packet.end[0] == "lost":
        return packet.end
    return ("heard", packet.end[1], packet.shows[-1])
