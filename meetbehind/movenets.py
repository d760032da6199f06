"""A network in which hosts move."""

from meetbehind.leftovers import event_in
from meetbehind.nets import are_alike
from meetbehind.restnets import RestNet


class MoveNet(RestNet):
    """A network with time in which hosts move to other realms; the entries of gates stay."""

    @property
    def world(self):
        """The world as it is now."""
        return self.state.present

    def move(self, host, realm):
        """Moves a host to another realm, in which it keeps its address."""
        self.state.present = event_in(self.world, ("moves", host, realm))

    def undo(self, count=1):
        """Takes back the last packets, and what was waited, fell and moved behind them."""
        super().undo(count)

    def twin(self):
        """An equal network, in which hosts stand where they are now, independent of this one."""
        other = MoveNet(self.world, choose=self._choose)
        other.state = self.state.copied()
        return other

    def trial(self):
        """A context behind which the network, the time and the world are as they were before."""
        return super().trial()

    def __eq__(self, other):
        return isinstance(other, MoveNet) and are_alike(self, other) and self.now == other.now
