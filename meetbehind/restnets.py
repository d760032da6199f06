"""A network in which time passes and entries end."""

from meetbehind.checks import is_integer
from meetbehind.errors import InvalidTime, NoStation
from meetbehind.nets import are_alike, Net

MOST_UNITS = 1000000000


class RestNet(Net):
    """A network in which an entry of a gate that rests ends so many time units behind its last packet."""

    @property
    def now(self):
        """How many time units have passed."""
        return self.state.time

    @property
    def log(self):
        """A row (host, target, result) for each packet; what was waited and fell is not in it."""
        return tuple(self.state.rows)

    def wait(self, units):
        """Lets time pass; what time it is then."""
        if not is_integer(units, 1, MOST_UNITS):
            raise InvalidTime(units)
        self.state.time += units
        return self.now

    def fall(self, gate):
        """Takes all entries from a gate."""
        if gate not in self.world.gates:
            raise NoStation(gate)
        self.state.fall(gate)

    def entries(self, gate):
        """The entries of a gate that are there now, ascending by port."""
        return super().entries(gate)

    def undo(self, count=1):
        """Takes back the last packets, and what was waited and fell behind them."""
        super().undo(count)

    def twin(self):
        """An equal network at the same time, independent of this one."""
        other = RestNet(self.world, choose=self._choose)
        other.state = self.state.copied()
        return other

    def trial(self):
        """A context behind which the network, and the time, is as it was before."""
        return super().trial()

    def __eq__(self, other):
        return isinstance(other, RestNet) and are_alike(self, other) and self.now == other.now
