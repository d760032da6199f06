"""What a network keeps: the entries of its gates and the packets that were sent."""


class Entry:
    """An entry of a gate."""

    def __init__(self, inner, key, port):
        self.inner = inner
        self.key = key
        self.port = port
        self.sent = {}

    def opens(self, lets, source):
        """Whether the entry lets in a source, at a gate that lets in by this word."""
        if lets == "any":
            return True
        if lets == "both":
            return source in self.sent
        return any([target[0] == source[0] for target in self.sent])

    def as_row(self):
        """The entry as a tuple."""
        return (self.inner, self.key, self.port, tuple(sorted(list(self.sent))))

    def copied(self):
        """An equal entry of its own."""
        other = Entry(self.inner, self.key, self.port)
        other.sent = {target: True for target in self.sent}
        return other


class Table:
    """The entries of one gate, and the ports that it used so far."""

    def __init__(self):
        self.by_key = {}
        self.by_port = {}
        self.used = {}

    def used_ports(self):
        """The ports used so far, ascending, also by packets that were taken back."""
        return tuple(sorted(list(self.used)))

    def use(self, inner, key, port, target):
        """Sends out by the entry, which is made if it is lacking; tells what changed: "made", "sent" or None."""
        entry = self.by_key.get((inner, key))
        change = None
        if entry is None:
            entry = Entry(inner, key, port)
            self._put(entry)
            self.used[port] = True
            change = "made"
        elif target not in entry.sent:
            change = "sent"
        entry.sent[target] = True
        return change

    def revert(self, change, inner, key, target):
        """Takes back what use changed last; the port stays used."""
        entry = self.by_key[(inner, key)]
        if change == "made":
            del self.by_key[(inner, key)]
            del self.by_port[entry.port]
        else:
            del entry.sent[target]

    def _put(self, entry):
        self.by_key[(entry.inner, entry.key)] = entry
        self.by_port[entry.port] = entry

    def copied(self):
        """An equal table of its own."""
        other = Table()
        for entry in list(self.by_key.values()):
            other._put(entry.copied())
        other.used = {port: True for port in self.used}
        return other


class State:
    """The tables of all gates, and a row and the changes of each packet; shown is for networks that know names."""

    def __init__(self, gates):
        self.tables = {gate: Table() for gate in gates}
        self.rows = []
        self.changes = []
        self.shown = {}

    def take_back(self):
        """Takes back the last packet; the ports that it used stay used."""
        self.rows.pop()
        changes = self.changes.pop()
        for gate, change, inner, key, target in reversed(changes):
            self.tables[gate].revert(change, inner, key, target)

    def copied(self):
        """An equal state of its own."""
        other = State(())
        other.tables = {gate: self.tables[gate].copied() for gate in self.tables}
        other.rows = list(self.rows)
        other.changes = list(self.changes)
        other.shown = {name: self.shown[name] for name in self.shown}
        return other
