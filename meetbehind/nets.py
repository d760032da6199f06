"""A network with ports."""

from meetbehind.checks import is_endpoint, is_integer, LAST_PORT
from meetbehind.errors import InvalidPort, InvalidTarget, NoStation, NothingToUndo
from meetbehind.given import check_host
from meetbehind.ports import Ports
from meetbehind.routes import gates_out, route
from meetbehind.states import State
from meetbehind.trials import Trial

HOST_PORT = 1
LEAST_PORT = 2


class Net:
    """The network of a world, in which packets are sent one after another."""

    def __init__(self, world, *, choose=None):
        self._choose = Ports() if choose is None else choose
        # all that changes is kept here, so that a trial can put it back
        self.state = State(world)

    @property
    def world(self):
        """The world of the network."""
        return self.state.present

    @property
    def log(self):
        """A row (host, target, result) for each packet."""
        return tuple(self.state.rows)

    @property
    def told(self):
        """All endpoints that hosts have seen as sources, ascending."""
        results = [row[2] for row in self.state.rows]
        return tuple(sorted(set([result[2] for result in results if result[0] == "heard"])))

    def entries(self, gate):
        """The entries of a gate, ascending by port."""
        if gate not in self.world.gates:
            raise NoStation(gate)
        return self.state.tables[gate].as_rows(self.state.time)

    def seen(self, host):
        """The pairs (sender, source) of the packets that a host heard, in order."""
        check_host(self.world, host)
        for sender, _, result in self.log:
            if result[0] == "heard" and result[1] == host:
                yield (sender, result[2])

    def send(self, host, target):
        """Sends a packet and tells what becomes of it."""
        check_host(self.world, host)
        if not is_endpoint(target):
            raise InvalidTarget(target)
        course = route(self.world, self.world.realm(host), target[0])
        # nothing changes before all ports are chosen, as choosing one may fail
        uses = self._uses(host, gates_out(self.world, course), target)
        changes = self._go_out(uses, target)
        source = self._source(host, uses)
        result = self._arrive(course, source, target)
        self.state.take_down((host, target, result), changes)
        return result

    def _uses(self, host, gates, target):
        """The tuples (gate, inner endpoint, key, port) of the entries by which a packet goes out, in order."""
        uses = []
        for gate in gates:
            inner = self._source(host, uses)
            key = _key(self.world.kind(gate), target)
            entry = self.state.tables[gate].entry_for(inner, key, self.state.time)
            port = self._new_port(gate) if entry is None else entry.port
            uses.append((gate, inner, key, port))
        return uses

    def _source(self, host, uses):
        """The source that a packet of the host shows behind these entries."""
        if not uses:
            return (self.world.address(host), HOST_PORT)
        gate, _, _, port = uses[-1]
        return (self.world.address(gate), port)

    def _new_port(self, gate):
        """The port that is chosen for a new entry of the gate."""
        used = self.state.tables[gate].used_ports()
        choose = self._choose
        port = choose(gate, used)
        if not is_integer(port, LEAST_PORT, LAST_PORT) or port in used:
            raise InvalidPort(port)
        return port

    def _go_out(self, uses, target):
        """Sends a packet out by these entries; the changes that this makes."""
        changes = []
        for gate, inner, key, port in uses:
            change = self.state.tables[gate].use(inner, key, port, target, self.state.time)
            if change is not None:
                changes.append((gate, change))
        return changes

    def _arrive(self, course, source, target):
        """What becomes of a packet that has gone out as far as its route tells."""
        word, _, place = course
        if word == "nowhere":
            return ("lost", "nowhere", "")
        if word == "turn" and not self.world.kind(place).turns:
            return ("lost", "unturned", place)
        while place in self.world.gates:
            entry = self.state.tables[place].entry_at(target[1], self.state.time)
            if entry is None:
                return ("lost", "closed", place)
            if not entry.opens(self.world.kind(place).lets, source):
                return ("lost", "barred", place)
            target = entry.inner
            inside = self.world.station(place, target[0])
            # where hosts move, nobody may stand there now
            if inside is None:
                return ("lost", "gone", place)
            place = inside
        if target[1] != HOST_PORT:
            return ("lost", "port", place)
        return ("heard", place, source)

    def undo(self, count=1):
        """Takes back the last packets."""
        if not is_integer(count, 1, len(self.state.rows)):
            raise NothingToUndo(count)
        for _ in range(count):
            self.state.take_back()

    def twin(self):
        """An equal network with the same choose and the same used ports, independent of this one."""
        other = Net(self.world, choose=self._choose)
        other.state = self.state.copied()
        return other

    def trial(self):
        """A context behind which the network is as it was before."""
        return Trial(self)

    def __eq__(self, other):
        return isinstance(other, Net) and are_alike(self, other)


def _key(kind, target):
    """The key of a packet to the target at a gate of this kind."""
    if kind.lends == "one":
        return None
    return target[0] if kind.lends == "far" else target


def are_alike(one, two):
    """Whether two networks are of one class and have the same world, log and entries."""
    return (one.__class__.__name__ == two.__class__.__name__ and one.world == two.world and one.log == two.log
            and _all_entries(one) == _all_entries(two))


def _all_entries(net):
    """The entries of all gates."""
    return [net.entries(gate) for gate in net.world.gates]


def tried(net, deed):
    """What a deed returns in a trial."""
    with net.trial() as held:
        return deed(held)
