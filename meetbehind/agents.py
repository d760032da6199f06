"""Agreements of the programs of two hosts with a helper."""

from meetbehind.errors import NoStation
from meetbehind.given import check_host
from meetbehind.judge import Judge
from meetbehind.names import show_name
from meetbehind.roads import roads_of
from meetbehind.talks import even_names

QUIET_ROUNDS = 2


class Agent:
    """An agreement of the programs of x and y with a helper in the open realm, which only hears."""

    def __init__(self, world, x, y, helper):
        for name in (x, y, helper):
            check_host(world, name)
        if y == x:
            raise NoStation(y)
        if world.realm(helper) != "" or helper in (x, y):
            raise NoStation(helper)
        self._world = world
        self._x = x
        self._y = y
        self._helper = helper
        self._roads = roads_of(world)
        self._judge = Judge()
        self._round = 0
        # how many rounds behind one another brought nothing new
        self._quiet = 0
        self._result = None
        self._arrived = {}
        self._shown = {x: {}, y: {}}

    @property
    def round(self):
        """How many rounds were done."""
        return self._round

    @property
    def learned(self):
        """The lent names by which x, and by which y showed itself, sorted."""
        return tuple([tuple(sorted(list(self._shown[name]), key=show_name)) for name in (self._x, self._y)])

    @property
    def result(self):
        """The round and the pair of names by which the agreement came to an even talk, or None."""
        return self._result

    @property
    def done(self):
        """Whether there is a result, or nothing new came up in the last two rounds."""
        return self._result is not None or self._quiet >= QUIET_ROUNDS

    def step(self):
        """Does a round; the rows (sender, name, host, source) of the packets of this round that were delivered."""
        if self.done:
            return ()
        packets = self._packets(self._x, self._y) + self._packets(self._y, self._x)
        delivered = self._judge.do_round(packets)
        rows = [(packet.host, packet.name, packet.end[1], packet.shows[-1]) for packet in delivered]
        self._round += 1
        self._quiet = 0 if self._take_down(rows) else self._quiet + 1
        pair = even_names(self._world, self._x, self._y, rows)
        if pair is not None:
            self._result = (self._round,) + pair
        return tuple(sorted(rows, key=lambda row: (row[0], show_name(row[1]))))

    def _packets(self, sender, other):
        """The packets of a round of one of both hosts."""
        addresses = sorted(set([self._world.address(name) for name in (self._helper, other)]))
        names = [("own", address) for address in addresses] + list(self._shown[other])
        return [self._roads.packet(sender, name) for name in names]

    def _take_down(self, rows):
        """Learns from the packets that were delivered; whether one of them was so for the first time.

        Only such a packet can show a new name, as a sender and a name always show the same one to the same host.
        """
        is_new = False
        for sender, name, host, source in rows:
            if (sender, name) not in self._arrived:
                self._arrived[(sender, name)] = True
                is_new = True
            # a packet to another host teaches nothing, and one to the sender itself shows an own name
            if source[0] == "lent" and host in (self._x, self._y, self._helper):
                self._shown[sender][source] = True
        return is_new

    def run(self):
        """Does rounds until the agreement is done, and yields what each of them delivered."""
        while not self.done:
            yield self.step()

    def twin(self):
        """An agreement in the same state, independent of this one."""
        other = Agent(self._world, self._x, self._y, self._helper)
        other._judge = self._judge.twin()
        other._round = self._round
        other._quiet = self._quiet
        other._result = self._result
        other._arrived = {pair: True for pair in self._arrived}
        other._shown = {sender: {name: True for name in self._shown[sender]} for sender in self._shown}
        return other
