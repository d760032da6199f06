"""What is left of names and entries when a gate falls or a host moves."""

from meetbehind.course import Course
from meetbehind.errors import Clash, InvalidEvent
from meetbehind.given import is_host
from meetbehind.names import show_name
from meetbehind.naming import address_in, lent_chain, owner_of
from meetbehind.roads import roads_of
from meetbehind.worlds import World


def event_in(world, event):
    """The world behind an event."""
    if not _is_event(world, event):
        raise InvalidEvent(event)
    if event[0] == "falls":
        return world
    _, host, realm = event
    address = world.address(host)
    if world.station(realm, address) is not None:
        raise Clash(address)
    parts = [part for part in world.parts if part[1] != host]
    return World(*parts, ("host", host, realm, address))


def _is_event(world, value):
    """Whether any value has the form of an event of the world."""
    if not isinstance(value, tuple) or len(value) not in (2, 3):
        return False
    if len(value) == 2:
        return value[0] == "falls" and value[1] in world.gates
    return value[0] == "moves" and is_host(world, value[1]) and (value[2] == "" or value[2] in world.gates)


def remaining(world, event):
    """The lent names that are left behind an event of those that are told in the closure, sorted."""
    event_in(world, event)
    return tuple(sorted(list(Leftovers(roads_of(world), world.hosts, event).left), key=show_name))


def roads_behind(roads, event, after):
    """The packets of the world after, behind an event; roads are those of the world before it."""
    return roads if event[0] == "falls" else roads_of(after)


class Leftovers:
    """What is left behind an event of rounds in which these hosts speak, by the packets of some roads.

    left is a dict of the lent names that are left; opened a dict of what is left of all that was opened.
    """

    def __init__(self, roads, hosts, event):
        self._roads = roads
        self._event = event
        self._rests = {}
        course = Course(roads, hosts)
        self.left = {}
        for name in course.since:
            rest = self._rest_of(name)
            if rest is not None:
                self.left[rest] = True
        self.opened = {}
        for entry, target in course.opened:
            rest = self._rest_of(entry)
            # a dead name counts as a blind one, which need not be kept: no packet comes from it
            sent_to = self._rest_of(target) if isinstance(target, tuple) else target
            if rest is not None and sent_to is not None:
                self.opened[(rest, sent_to)] = True

    def _rest_of(self, name):
        """What is left of a name; None if its entry is gone or leads nowhere."""
        if name[0] != "lent":
            return name
        if name not in self._rests:
            self._rests[name] = None if self._is_dead(name) else self._with_rests(name)
        return self._rests[name]

    def _is_dead(self, name):
        """Whether the entry of a lent name is gone or leads nowhere."""
        if self._event[0] == "falls":
            return self._event[1] in [lent[1] for lent in lent_chain(name)]
        return owner_of(self._roads, name) == self._event[1]

    def _with_rests(self, name):
        """What is left of a lent name that is not dead: each key in it that is a dead name becomes its address."""
        _, gate, inner, key = name
        if isinstance(key, tuple) and self._rest_of(key) is None:
            key = address_in(self._roads, key)
        return ("lent", gate, self._rest_of(inner), key)
