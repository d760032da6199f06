"""What is left of names and entries when a gate falls or a host moves."""

from meetbehind.course import Course
from meetbehind.errors import Clash, InvalidEvent
from meetbehind.given import is_host
from meetbehind.names import show_name
from meetbehind.naming import address_in, lent_chain, owner_of
from meetbehind.worlds import World


def event_in(world, event):
    """The world behind an event."""
    if not _is_event(world, event):
        raise InvalidEvent(event)
    if event[0] == "falls":
        return world
    _, host, realm = event
    address = world.address(host)
    if world.station(realm, address) is not None:
        raise Clash(address)
    parts = [part for part in world.parts if part[1] != host]
    return World(*parts, ("host", host, realm, address))


def _is_event(world, value):
    """Whether any value has the form of an event of the world."""
    if not isinstance(value, tuple) or len(value) not in (2, 3):
        return False
    if len(value) == 2:
        return value[0] == "falls" and value[1] in world.gates
    return value[0] == "moves" and is_host(world, value[1]) and (value[2] == "" or value[2] in world.gates)


def remaining(world, event):
    """The lent names that are left behind an event of those that are told in the closure, sorted."""
    event_in(world, event)
    return tuple(sorted(list(Leftovers(world, event).left), key=show_name))


class Leftovers:
    """What is left of the closure of a world behind an event.

    left is a dict of the lent names that are left; opened a dict of what is left of all that was opened.
    """

    def __init__(self, world, event):
        self._world = world
        self._event = event
        course = Course(world, world.hosts, ())
        self.left = {self._rest_of(name): True for name in course.since if not self._is_dead(name)}
        self.opened = {}
        for entry, target in course.opened:
            # a dead name counts as a blind one, which need not be kept: no packet comes from it
            if not self._is_dead(entry) and not (isinstance(target, tuple) and self._is_dead(target)):
                self.opened[(self._rest_of(entry), self._rest_of_target(target))] = True

    def _is_dead(self, name):
        """Whether the entry of a lent name is gone or leads nowhere; False for other names."""
        if name[0] != "lent":
            return False
        if self._event[0] == "falls":
            return self._event[1] in [lent[1] for lent in lent_chain(name)]
        return owner_of(self._world, name) == self._event[1]

    def _rest_of(self, name):
        """What is left of a name that is not dead: each key in it that is a dead name becomes its address."""
        if name[0] != "lent":
            return name
        _, gate, inner, key = name
        if isinstance(key, tuple) and self._is_dead(key):
            key = address_in(self._world, key)
        return ("lent", gate, self._rest_of(inner), key)

    def _rest_of_target(self, target):
        """What is left of a name or an address for which an entry was opened."""
        return self._rest_of(target) if isinstance(target, tuple) else target
