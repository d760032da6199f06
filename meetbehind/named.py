"""A network that knows names."""

from meetbehind.errors import NotSeen
from meetbehind.given import check_host
from meetbehind.names import check_name, show_name, sources
from meetbehind.nets import HOST_PORT, Net

NO_PORT = 0


class NamedNet(Net):
    """A network in which packets can be sent to names."""

    @property
    def known_names(self):
        """The lent names that hosts have seen, sorted."""
        return tuple(sorted(list(self.state.shown), key=show_name))

    def endpoint(self, name):
        """The endpoint for which a name stands."""
        check_name(self.world, name)
        if name[0] == "own":
            return (name[1], HOST_PORT)
        if name[0] == "blind":
            return (name[1], NO_PORT)
        if name not in self.state.shown:
            raise NotSeen(name)
        return self.state.shown[name][0]

    def send_to(self, host, name):
        """Sends a packet to the endpoint for which a name stands, and tells what becomes of it."""
        check_host(self.world, host)
        result = self.send(host, self.endpoint(name))
        if result[0] == "lost":
            return result
        source = sources(self.world, host, name)[-1]
        if source[0] == "lent" and source not in self.state.shown:
            # the number of packets tells undo whether this one was taken back
            self.state.shown[source] = (result[2], len(self.state.rows))
        return ("heard", result[1], source)

    def undo(self, count=1):
        """Takes back the last packets, and the names that they showed first."""
        super().undo(count)
        shown = self.state.shown
        many = len(self.state.rows)
        self.state.shown = {name: shown[name] for name in shown if shown[name][1] <= many}

    def twin(self):
        """An equal network that knows the same names, independent of this one."""
        other = NamedNet(self.world, choose=self._choose)
        other.state = self.state.copied()
        return other

    def trial(self):
        """A context behind which the network, and what it knows, is as it was before."""
        return super().trial()
