"""Where a packet goes, as far as addresses tell it."""

from meetbehind.checks import is_address, LAST_ADDRESS
from meetbehind.errors import InvalidTarget, NoStation
from meetbehind.given import check_host


def route(world, realm, address):
    """As way tells it, for a sender in the realm; the arguments are right."""
    gates = []
    while True:
        name = world.station(realm, address)
        if name is not None:
            return ("station", tuple(gates), name)
        if realm == "":
            return ("nowhere", tuple(gates), None)
        if world.address(realm) == address:
            return ("turn", tuple(gates), realm)
        gates.append(realm)
        realm = world.realm(realm)


def all_routes(world):
    """For each realm a dict from the addresses of all stations to the routes of packets that are sent there from it."""
    inside = {}
    for part in world.parts:
        inside.setdefault(part[2], {})[part[3]] = ("station", (), part[1])
    routes = {"": {part[3]: ("nowhere", (), None) for part in world.parts}}
    routes[""].update(inside.get("", {}))
    for part in world.parts:
        # a gate stands behind the one around it
        if part[0] == "gate":
            gate = part[1]
            found = {number: (word, (gate,) + gates, place) for number, (word, gates, place) in routes[part[2]].items()}
            found[part[3]] = ("turn", (), gate)
            found.update(inside.get(gate, {}))
            routes[gate] = found
    return routes


def gates_out(world, course):
    """The gates through which a packet with such a route goes out, in order."""
    word, gates, place = course
    if word == "turn" and world.kind(place).turns:
        return gates + (place,)
    return gates


def way(world, host, address):
    """Where a packet of the host to a target with this address goes."""
    check_host(world, host)
    if not is_address(address):
        raise InvalidTarget(address)
    return route(world, world.realm(host), address)


def hidden(world, realm, address):
    """The stations with this address that a packet from the realm never meets, from inside outwards."""
    if realm != "" and realm not in world.gates:
        raise NoStation(realm)
    if not is_address(address):
        raise InvalidTarget(address)
    _, gates, place = route(world, realm, address)
    realms = _realms_outwards(world, realm)[len(gates):]
    found = [world.station(further, address) for further in realms]
    return tuple([name for name in found if name is not None and name != place])


def _realms_outwards(world, realm):
    """The realm, the one around it, and so on to the open one."""
    realms = [realm]
    while realms[-1] != "":
        realms.append(world.realm(realms[-1]))
    return realms


def reachable(world, host):
    """The pairs of an address that leads to a station, and this station, ascending."""
    check_host(world, host)
    realm = world.realm(host)
    for address in range(1, LAST_ADDRESS + 1):
        word, _, name = route(world, realm, address)
        if word == "station":
            yield (address, name)


def free_addresses(world):
    """The addresses that no station has, ascending."""
    taken = [part[3] for part in world.parts]
    for address in range(1, LAST_ADDRESS + 1):
        if address not in taken:
            yield address
