"""Worlds that differ so that nobody is heard by fewer hosts or later in one of them, or all are heard alike."""

from meetbehind.checks import is_address
from meetbehind.errors import Clash, InvalidTarget, Needed, NoStation
from meetbehind.routes import free_addresses
from meetbehind.worlds import World


def looser(one, two):
    """Whether two worlds have the same parts but for kinds, and each kind of one is within that of two."""
    if _places(one) != _places(two):
        return False
    return all([one.kind(gate).within(two.kind(gate)) for gate in one.gates])


def _places(world):
    """The parts of a world without the kinds, sorted."""
    return sorted([part[:4] for part in world.parts])


def joined(world, gate):
    """The world in which a gate and the one around it, in which nothing else stands, are one gate."""
    if gate not in world.gates:
        raise NoStation(gate)
    around = world.realm(gate)
    if around == "" or world.stations(around) != (gate,):
        raise Needed(gate)
    address = world.address(gate)
    if address in _addresses_but(world, gate):
        raise Clash(address)
    kind = world.kind(gate) & world.kind(around)
    parts = []
    for part in world.parts:
        if part[1] == around:
            parts.append(("gate", gate, part[2], part[3], kind))
        elif part[1] != gate:
            parts.append(part)
    return World(*parts)


def _addresses_but(world, name):
    """The addresses of all stations but one."""
    return [part[3] for part in world.parts if part[1] != name]


def renamed(world, table):
    """The world with the new addresses of a dict from names of stations."""
    for name in sorted(list(table), key=lambda key: repr(key)):
        if name not in world:
            raise NoStation(name)
    names = sorted(list(table))
    for name in names:
        if not is_address(table[name]):
            raise InvalidTarget(table[name])
    for name in names:
        _check_clash(world, name, table[name], [table[other] for other in names if other != name])
    parts = [part[:3] + (table.get(part[1], part[3]),) + part[4:] for part in world.parts]
    return World(*parts)


def _check_clash(world, name, address, others):
    """Raises if the old or the new address of a station is that of another one; others are other new addresses."""
    taken = _addresses_but(world, name)
    if world.address(name) in taken:
        raise Clash(world.address(name))
    if address in taken or address in others:
        raise Clash(address)


def grown(world, name, realm):
    """The world with a host more, at the least address that no station has."""
    free = list(free_addresses(world))
    return world.with_part(("host", name, realm, free[0]))
