"""Checks of hosts and gates that are given as arguments."""

from meetbehind.errors import NoStation


def is_host(world, value):
    """Whether any value is a host of the world."""
    return isinstance(value, str) and value in world.hosts


def check_host(world, value):
    """Raises NoStation if any value is no host of the world."""
    if not is_host(world, value):
        raise NoStation(value)


def given_speakers(world, speakers):
    """The hosts that speak, ascending."""
    if speakers is None:
        return world.hosts
    return _given(speakers, world.hosts)


def given_gates(world, gates):
    """The gates of a tuple, list or set, ascending."""
    return _given(gates, world.gates)


def _given(values, stations):
    """Those of the stations that are among the values; raises for the first value that is none."""
    ordered = sorted(values, key=lambda value: repr(value))
    for value in ordered:
        if value not in stations:
            raise NoStation(value)
    return tuple([name for name in stations if name in ordered])
