"""What a network keeps: the entries of its gates, the packets that were sent, the time, and its world as it is now."""


class Entry:
    """An entry of a gate."""

    def __init__(self, inner, key, port):
        self.inner = inner
        self.key = key
        self.port = port
        self.sent = {}
        # when a packet went out by it last
        self.last = 0

    def opens(self, lets, source):
        """Whether the entry lets in a source, at a gate that lets in by this word."""
        if lets == "any":
            return True
        if lets == "both":
            return source in self.sent
        return any([target[0] == source[0] for target in self.sent])

    def as_row(self):
        """The entry as a tuple."""
        return (self.inner, self.key, self.port, tuple(sorted(list(self.sent))))

    def copied(self):
        """An equal entry of its own."""
        other = Entry(self.inner, self.key, self.port)
        other.sent = {target: True for target in self.sent}
        other.last = self.last
        return other


class Table:
    """The entries of one gate, and the ports that it used so far.

    An entry is there until so many time units have passed behind its last packet; if span is None, it is there always.
    One that has ended is kept until another one takes its place: it is there again when time is taken back.
    """

    def __init__(self, span):
        self.by_key = {}
        self.by_port = {}
        self.used = {}
        self.span = span

    def used_ports(self):
        """The ports used so far, ascending, also by packets that were taken back."""
        return tuple(sorted(list(self.used)))

    def entry_for(self, inner, key, time):
        """The entry for an inner endpoint and a key that is there at this time, or None."""
        return self._if_there(self.by_key.get((inner, key)), time)

    def entry_at(self, port, time):
        """The entry with a port that is there at this time, or None."""
        return self._if_there(self.by_port.get(port), time)

    def as_rows(self, time):
        """The entries that are there at this time as tuples, ascending by port."""
        entries = [self.entry_at(port, time) for port in self.by_port]
        return tuple(sorted([entry.as_row() for entry in entries if entry is not None], key=lambda row: row[2]))

    def _if_there(self, entry, time):
        """The entry, or None if it has ended at this time."""
        if entry is None or (self.span is not None and time - entry.last >= self.span):
            return None
        return entry

    def use(self, inner, key, port, target, time):
        """Sends out by the entry, which is made if it is lacking; the change that this is, or None."""
        place = (inner, key)
        entry = self.entry_for(inner, key, time)
        change = None
        if entry is None:
            change = ("put", place, self._take_out(place))
            entry = Entry(inner, key, port)
            self._put(entry)
            self.used[port] = True
        elif target not in entry.sent:
            change = ("sent", place, entry.last, target)
        elif entry.last < time:
            change = ("kept", place, entry.last)
        entry.sent[target] = True
        entry.last = time
        return change

    def take_out_all(self):
        """Takes out all entries; the changes that this is."""
        changes = []
        for place in list(self.by_key):
            changes.append(("put", place, self._take_out(place)))
        return changes

    def revert(self, change):
        """Takes back the last change; a port that was used for it stays used."""
        word, place, before = change[:3]
        if word == "put":
            self._take_out(place)
            if before is not None:
                # a copy, as tables of other networks may take back the same change
                self._put(before.copied())
            return
        entry = self.by_key[place]
        entry.last = before
        if word == "sent":
            del entry.sent[change[3]]

    def _put(self, entry):
        self.by_key[(entry.inner, entry.key)] = entry
        self.by_port[entry.port] = entry

    def _take_out(self, place):
        """Takes out the entry for an inner endpoint and a key, if there is one; this entry, or None."""
        entry = self.by_key.get(place)
        if entry is not None:
            del self.by_key[place]
            del self.by_port[entry.port]
        return entry

    def copied(self):
        """An equal table of its own."""
        other = Table(self.span)
        for entry in list(self.by_key.values()):
            other._put(entry.copied())
        other.used = {port: True for port in self.used}
        return other


class State:
    """The tables of all gates, the time, and the world as it is now; shown is for networks that know names.

    For each packet there are a row, what time and world were when it was sent, and the changes that it made at gates,
    with those that were made behind it, before the next packet.
    """

    def __init__(self, world):
        self.present = world
        self.time = 0
        self.tables = {gate: Table(world.kind(gate).rests) for gate in world.gates}
        self.rows = []
        self.befores = []
        self.changes = []
        self.shown = {}

    def take_down(self, row, changes):
        """Keeps a packet that was sent just now."""
        self.rows.append(row)
        self.befores.append((self.time, self.present))
        self.changes.append(changes)

    def fall(self, gate):
        """Takes out all entries of a gate."""
        changes = [(gate, change) for change in self.tables[gate].take_out_all()]
        if changes:
            # a list of its own, as the state of a twin may have the same one
            self.changes[-1] = self.changes[-1] + changes

    def take_back(self):
        """Takes back the last packet and what came behind it; the ports that it used stay used."""
        self.rows.pop()
        self.time, self.present = self.befores.pop()
        changes = self.changes.pop()
        for gate, change in reversed(changes):
            self.tables[gate].revert(change)

    def copied(self):
        """An equal state of its own."""
        other = State(self.present)
        other.time = self.time
        other.tables = {gate: self.tables[gate].copied() for gate in self.tables}
        other.rows = list(self.rows)
        other.befores = list(self.befores)
        other.changes = list(self.changes)
        other.shown = {name: self.shown[name] for name in self.shown}
        return other
