"""The rounds of a world, done until nothing more can happen, or until a host is heard."""


class Course:
    """What is told, opened and delivered in which round, if these hosts speak, by the packets of some roads.

    Before the first round the lent names in left are known, and all in opened was opened. If goal is a pair of hosts,
    no round is done behind the first one in which the second of them hears the first. rows are the tuples
    (round, sender, name, host, source) of all deliveries, as they come; since is a dict from the lent names that are
    told to the rounds in which they are seen first, tellers one from them to the pairs of a host and a name by which
    they are told then; opened is a dict from what was opened to the pair of the round and the name to which a packet
    opened it first.
    """

    def __init__(self, roads, speakers, left=(), opened=(), goal=None):
        self.roads = roads
        self.rows = []
        self.since = {}
        self.tellers = {}
        self.opened = {pair: (0, None) for pair in opened}
        self._speakers = speakers
        self._left = {name: True for name in left}
        self._waiting = []
        self._goal = goal
        self._is_reached = False
        fresh = sorted(roads.at_first() + list(left), key=roads.text)
        number = 0
        goes_on = True
        while goes_on:
            number += 1
            before = len(self.opened)
            fresh = self._next_names(number, fresh)
            # a round without new names may still open entries for packets that wait
            may_be_let_in = self._waiting != [] and len(self.opened) > before
            goes_on = (fresh != [] or may_be_let_in) and not self._is_reached

    def _next_names(self, number, fresh):
        """Does a round, before which these names became known, sorted; the names that are seen first in it, sorted."""
        packets = self.roads.packets(self._speakers, fresh)
        seen_first = self._deliver(number, self._let_in(packets))
        # only now: coming in is judged by the packets of earlier rounds alone
        for packet in packets:
            for pair in packet.gives:
                if pair not in self.opened:
                    self.opened[pair] = (number, packet.name)
        return seen_first

    def _let_in(self, packets):
        """Those of the packets of a round, and of those that wait, that are delivered now; the others wait."""
        late = []
        if self._waiting:
            late = [packet for packet in self._waiting if self._is_open(packet.needs)]
            self._waiting = [packet for packet in self._waiting if not self._is_open(packet.needs)]
        found = []
        for packet in packets:
            if packet.needs is None:
                continue
            if self._is_open(packet.needs):
                found.append(packet)
            else:
                self._waiting.append(packet)
        # the packets of a round are in order already
        return sorted(found + late, key=lambda one: (one.host, self.roads.text(one.name))) if late else found

    def _is_open(self, needs):
        """Whether all of this was opened."""
        return needs == [] or all([pair in self.opened for pair in needs])

    def _deliver(self, number, packets):
        """Takes down the packets that are delivered in this round; the names that are seen first, sorted."""
        fresh = []
        for packet in packets:
            source = packet.shows[-1]
            hearer = packet.end[1]
            self.rows.append((number, packet.host, packet.name, hearer, source))
            if source[0] == "lent" and hearer in self._speakers and self._is_new(source):
                self.since[source] = number
                self.tellers[source] = (packet.host, packet.name)
                fresh.append(source)
            if (packet.host, hearer) == self._goal:
                self._is_reached = True
        return sorted(fresh, key=self.roads.text)

    def _is_new(self, source):
        """Whether a source is told, and was not known so far."""
        return self.roads.is_told(source) and source not in self.since and source not in self._left

    def first_row(self, x, y):
        """The first row in which y hears x, or None."""
        for row in self.rows:
            if row[1] == x and row[3] == y:
                return row
        return None


def is_heard(roads, speakers, x, y):
    """Whether y hears x in some round if these hosts speak."""
    # a host that does not speak is heard by nobody
    return x in speakers and Course(roads, speakers, goal=(x, y)).first_row(x, y) is not None
