"""Checks of hosts and gates that are given as arguments."""

from meetbehind.errors import NoStation


def is_host(world, value):
    """Whether any value is a host of the world."""
    return isinstance(value, str) and value in world.hosts


def check_host(world, value):
    """Raises NoStation if any value is no host of the world."""
    if not is_host(world, value):
        raise NoStation(value)


def check_two_hosts(world, x, y):
    """Raises NoStation for the first of two values that is no host, or for the second if it is the first one."""
    check_host(world, x)
    check_host(world, y)
    if x == y:
        raise NoStation(y)


def given_speakers(world, speakers):
    """The hosts that speak, ascending."""
    if speakers is None:
        return world.hosts
    return given_among(speakers, world.hosts)


def given_gates(world, gates):
    """The gates of a tuple, list or set, ascending."""
    return given_among(gates, world.gates)


def given_among(values, names):
    """Those of the names that are among the values, in their order; raises for the first value that is none."""
    ordered = sorted(values, key=lambda value: repr(value))
    for value in ordered:
        if value not in names:
            raise NoStation(value)
    return tuple([name for name in names if name in ordered])
