"""The rounds of a world, done until nothing more can happen."""

from meetbehind.names import show_name
from meetbehind.naming import can_be_told, known_at_first
from meetbehind.packets import is_shut, opening, openings, Packet


class Course:
    """What is told, opened and delivered in which round, if these hosts speak and these gates forget.

    Before the first round the lent names in left are known, and all in opened was opened. rows are the tuples
    (round, sender, name, host, source) of all deliveries, as they come; since is a dict from the lent names that are
    told to the rounds in which they are seen first, tellers one from them to the pairs of a host and a name by which
    they are told then; opened is a dict from what was opened to the pair of the round and the name to which a packet
    opened it first.
    """

    def __init__(self, world, speakers, forgets, left=(), opened=()):
        self.rows = []
        self.since = {}
        self.tellers = {}
        self.opened = {pair: (0, None) for pair in opened}
        self._world = world
        self._speakers = speakers
        self._forgets = forgets
        self._left = {name: True for name in left}
        self._waiting = []
        fresh = known_at_first(world) + list(left)
        number = 0
        quiet = 0
        # a round without new names may still open entries, so the round behind it counts, too
        while quiet < 2:
            number += 1
            fresh = self._next_names(number, fresh)
            quiet = 0 if fresh else quiet + 1

    def _next_names(self, number, fresh):
        """Does a round, before which these names became known; the names that are seen first in it."""
        packets = [Packet(self._world, host, name, self._forgets) for host in self._speakers for name in fresh]
        for packet in packets:
            needs = needs_of(self._world, packet, self._forgets)
            if needs is not None:
                self._waiting.append((packet, needs))
        delivered = [packet for packet, needs in self._waiting if self._stands_open(needs)]
        self._waiting = [row for row in self._waiting if not self._stands_open(row[1])]
        seen_first = self._deliver(number, delivered)
        # only now: coming in is judged by the packets of earlier rounds alone
        for packet in packets:
            for pair in openings(self._world, packet):
                if pair not in self.opened:
                    self.opened[pair] = (number, packet.name)
        return seen_first

    def _stands_open(self, needs):
        """Whether all of this was opened."""
        return all([pair in self.opened for pair in needs])

    def _deliver(self, number, packets):
        """Takes down the packets that are delivered in this round; the names that are seen first."""
        fresh = []
        for packet in sorted(packets, key=lambda one: (one.host, show_name(one.name))):
            source = packet.shows[-1]
            self.rows.append((number, packet.host, packet.name, packet.end[1], source))
            if packet.end[1] in self._speakers and self._is_new(source):
                self.since[source] = number
                self.tellers[source] = (packet.host, packet.name)
                fresh.append(source)
        return sorted(fresh, key=show_name)

    def _is_new(self, source):
        """Whether a source can be told, and was not known so far."""
        return can_be_told(source, self._forgets) and source not in self.since and source not in self._left

    def first_row(self, x, y):
        """The first row in which y hears x, or None."""
        for row in self.rows:
            if row[1] == x and row[3] == y:
                return row
        return None


def is_heard(world, x, y):
    """Whether y hears x in some round if all hosts speak."""
    return Course(world, world.hosts, ()).first_row(x, y) is not None


def needs_of(world, packet, forgets):
    """What has to be opened before a packet to a known name is delivered, or None if it never is."""
    if packet.end[0] == "lost":
        return None
    source = packet.shows[-1]
    if any([is_shut(world, entry, source, forgets) for entry in packet.enters]):
        return None
    pairs = [opening(world, entry, source) for entry in packet.enters]
    return [pair for pair in pairs if pair is not None]
