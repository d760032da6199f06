"""Slow and plain second ways to work out what the package works out, from the parts of a world alone.

Nothing here uses the modules of the package but Kind and World, with which random worlds are made.
"""

from meetbehind.errors import MeetError
from meetbehind.kinds import Kind
from meetbehind.worlds import World


def random_world(random, gates=3, hosts=4, last=9):
    """A random world with about so many gates and hosts, one host at least; where last is low many addresses agree.

    Some worlds have strict gates alone, so that much takes many rounds.
    """
    strict = random.random() < 0.5
    parts = []
    for letter, name in [("gate", name) for name in "abcdef"[:random.randint(gates // 2, gates)]] + [
            ("host", name) for name in "stuvwxyz"[:random.randint(max(1, hosts // 2), hosts)]]:
        for _ in range(4):
            realm = random.choice([""] + [part[1] for part in parts if part[0] == "gate"])
            part = (letter, name, realm, random.randint(1, last))
            if letter == "gate":
                lends = random.choice(("both", "both", "far") if strict else Kind.LENDS)
                lets = random.choice(("both", "far", "far") if strict else Kind.LETS)
                part += (Kind(lends, lets, turns=random.random() < 0.4),)
            try:
                World(*parts, part)
            except MeetError:
                continue
            parts.append(part)
            break
    if not [part for part in parts if part[0] == "host"]:
        return random_world(random, gates, hosts, last)
    return World(*parts)


class Map:
    """A world as dicts."""

    def __init__(self, world):
        self.kinds = {part[1]: part[4] for part in world.parts if part[0] == "gate"}
        self.hosts = sorted(part[1] for part in world.parts if part[0] == "host")
        self.realms = {part[1]: part[2] for part in world.parts}
        self.addresses = {part[1]: part[3] for part in world.parts}
        self.stations = {(part[2], part[3]): part[1] for part in world.parts}


class PortModel:
    """A network: a list of entries [gate, inner, key, port, sent] that is made anew for each undo."""

    def __init__(self, world, ports):
        self.map = Map(world)
        self.ports = ports
        self.entries = []
        self.log = []
        self.used = {gate: [] for gate in self.map.kinds}
        self.befores = []

    def copied_entries(self):
        return [[gate, inner, key, port, list(sent)] for gate, inner, key, port, sent in self.entries]

    def undo(self, count):
        for _ in range(count):
            self.entries = self.befores.pop()
            self.log.pop()

    def send(self, host, target):
        self.befores.append(self.copied_entries())
        result = self.move(self.map.realms[host], (self.map.addresses[host], 1), target)
        self.log.append((host, target, result))
        return result

    def move(self, realm, source, target):
        where = self.map
        while True:
            station = where.stations.get((realm, target[0]))
            if station in where.kinds:
                return self.come_in(station, source, target)
            if station is not None:
                return ("heard", station, source) if target[1] == 1 else ("lost", "port", station)
            if realm == "":
                return ("lost", "nowhere", "")
            turned = where.addresses[realm] == target[0]
            if turned and not where.kinds[realm].turns:
                return ("lost", "unturned", realm)
            gate = realm
            source = self.go_out(gate, source, target)
            if turned:
                return self.come_in(gate, source, target)
            realm = where.realms[gate]

    def go_out(self, gate, source, target):
        key = {"one": None, "far": target[0], "both": target}[self.map.kinds[gate].lends]
        for entry in self.entries:
            if entry[:3] == [gate, source, key]:
                if target not in entry[4]:
                    entry[4].append(target)
                return (self.map.addresses[gate], entry[3])
        port = self.ports(gate, tuple(sorted(self.used[gate])))
        self.used[gate].append(port)
        self.entries.append([gate, source, key, port, [target]])
        return (self.map.addresses[gate], port)

    def come_in(self, gate, source, target):
        for entry in self.entries:
            if entry[0] == gate and entry[3] == target[1]:
                lets = self.map.kinds[gate].lets
                open_to = {"any": True, "far": any(sent[0] == source[0] for sent in entry[4]),
                           "both": source in entry[4]}[lets]
                if open_to and (gate, entry[1][0]) not in self.map.stations:
                    return ("lost", "gone", gate)
                return self.move(gate, source, entry[1]) if open_to else ("lost", "barred", gate)
        return ("lost", "closed", gate)

    def rows(self, gate):
        return tuple(sorted(((inner, key, port, tuple(sorted(sent)))
                             for one, inner, key, port, sent in self.entries if one == gate), key=lambda row: row[2]))


def text_of(name):
    """The text of a name."""
    if name[0] == "lent":
        key = "" if name[3] is None else f"|{name[3]}?" if isinstance(name[3], int) else f"|{text_of(name[3])}"
        return f"{name[1]}({text_of(name[2])}{key})"
    return f"{name[1]}" if name[0] == "own" else f"{name[1]}?"


class NameModel:
    """The rounds of [11], with the words of the document: each packet walks its way anew in each round."""

    def __init__(self, world, speakers=None, forgets=()):
        self.map = Map(world)
        self.forgets = forgets
        self.speakers = self.map.hosts if speakers is None else sorted(set(speakers))
        self.ways = {}
        # lent names that are known before the first round, and to which targets their entries, and others, were sent
        self.left = []
        self.before = {}

    def address(self, name):
        return self.map.addresses[name[1]] if name[0] == "lent" else name[1]

    def plain(self, name):
        if name[0] != "lent":
            return name[0] == "own"
        return (name[1] not in self.forgets and self.map.kinds[name[1]].lends != "both" and self.plain(name[2]))

    def tellable(self, name):
        return name[0] == "own" or (name[1] not in self.forgets and self.tellable(name[2]))

    def way(self, host, name):
        """(sources, place, word): where a packet goes, and the word if it is lost there before it comes in."""
        if (host, name) not in self.ways:
            self.ways[(host, name)] = self.new_way(host, name)
        return self.ways[(host, name)]

    def new_way(self, host, name):
        where = self.map
        address = self.address(name)
        sources = [("own", where.addresses[host])]
        realm = where.realms[host]
        while (realm, address) not in where.stations:
            if realm == "":
                return sources, "", "nowhere"
            turned = where.addresses[realm] == address
            if turned and not where.kinds[realm].turns:
                return sources, realm, "unturned"
            key = {"one": None, "far": address,
                   "both": name if self.plain(name) else address}[where.kinds[realm].lends]
            sources.append(("lent", realm, sources[-1], key))
            if turned:
                return sources, realm, None
            realm = where.realms[realm]
        return sources, where.stations[(realm, address)], None

    def walk(self, sends, host, name):
        sources, place, word = self.way(host, name)
        if word is not None:
            return ("lost", word, place)
        source = sources[-1]
        while place in self.map.kinds:
            if name[0] != "lent" or name[1] != place or place in self.forgets:
                return ("lost", "closed", place)
            outgoing = [target for sender, target in sends if name in self.way(sender, target)[0]]
            outgoing += self.before.get(name, [])
            if not outgoing and name not in sources:
                return ("lost", "closed", place)
            lets = self.map.kinds[place].lets
            far = self.address(source) in [self.address(target) for target in outgoing]
            both = self.plain(source) and source in outgoing
            if not {"any": True, "far": far, "both": both}[lets]:
                return ("lost", "barred", place)
            name = name[2]
            place = self.map.stations[(place, self.address(name))]
        return ("heard", place, source) if name[0] == "own" else ("lost", "port", place)

    def closure(self):
        """(since, arrivals) of all rounds, three quiet ones at the end."""
        where = self.map
        since = {("own", where.addresses[host]): 0 for host in where.hosts}
        since.update({("blind", where.addresses[gate]): 0 for gate in where.kinds})
        since.update({name: 0 for name in self.left})
        arrivals = []
        arrived = set()
        sends = set()
        quiet = number = 0
        while quiet < 3:
            number += 1
            known = sorted(since, key=text_of)
            new = {}
            for host in self.speakers:
                for name in known:
                    result = self.walk(sends, host, name)
                    if result[0] == "lost":
                        continue
                    if (host, name) not in arrived:
                        arrived.add((host, name))
                        arrivals.append((number, host, name) + result[1:])
                    source = result[2]
                    if result[1] in self.speakers and source[0] == "lent" and self.tellable(source):
                        new.setdefault(source, number)
            sends.update((host, name) for host in self.speakers for name in known)
            quiet = 0 if [name for name in new if name not in since] else quiet + 1
            for name, first in new.items():
                since.setdefault(name, first)
        return since, arrivals

    def is_name(self, thing):
        """Whether any value is a name of the world, by the words of [16]."""
        where = self.map
        hosts = [where.addresses[host] for host in where.hosts]
        gates = [where.addresses[gate] for gate in where.kinds]
        if thing.__class__ is not tuple or len(thing) not in (2, 4):
            return False
        if len(thing) == 2:
            return thing[1].__class__ is int and (
                (thing[0] == "own" and thing[1] in hosts) or (thing[0] == "blind" and thing[1] in gates))
        word, gate, inner, key = thing
        if word != "lent" or gate.__class__ is not str or gate not in where.kinds or not self.is_name(inner):
            return False
        if inner[0] == "own":
            if where.stations.get((gate, inner[1])) not in where.hosts:
                return False
        elif inner[0] != "lent" or where.realms[inner[1]] != gate:
            return False
        lends = where.kinds[gate].lends
        if lends == "one":
            return key is None
        if key.__class__ is int:
            return key in gates or (lends == "far" and key in hosts)
        return lends == "both" and self.is_name(key) and self.plain(key)

    def deliveries(self, rows):
        """The tuples (round, sender, host) of a plan, or None if any value is no plan, by the words of [18]."""
        if rows.__class__ is not tuple or not rows:
            return None
        for row in rows:
            if (row.__class__ is not tuple or len(row) != 3 or row[0].__class__ is not int or row[0] < 1
                    or row[1].__class__ is not str or row[1] not in self.speakers or not self.is_name(row[2])):
                return None
        if list(rows) != sorted(set(rows), key=lambda row: (row[0], row[1], text_of(row[2]))):
            return None
        told = {}
        found = []
        for number, host, name in rows:
            if name[0] == "lent" and not told.get(name, number) < number:
                return None
            earlier = [(sender, target) for at, sender, target in rows if at < number]
            result = self.walk(earlier, host, name)
            if result[0] == "heard":
                found.append((number, host, result[1]))
                if result[1] in self.speakers and self.tellable(result[2]):
                    told[result[2]] = min(number, told.get(result[2], number))
        return found

    def shows_plan(self, x, y, rows):
        """Whether any value is a plan in which y hears x in the last round."""
        found = self.deliveries(rows)
        return found is not None and (rows[-1][0], x, y) in found

    def earliest(self, told, host, name):
        """(round, hearer, source) of a packet that is delivered, or None, by the words of [19]."""
        sources, place, word = self.way(host, name)
        if word is not None:
            return None
        numbers = [told[name] + 1]
        source = sources[-1]
        while place in self.map.kinds:
            if name[:2] != ("lent", place):
                return None
            inner = name
            while inner[2][0] == "lent":
                inner = inner[2]
            owner = self.map.stations[(inner[1], inner[2][1])]
            others = [other for other in told if owner in self.speakers and name in self.way(owner, other)[0]]
            before = self.before.get(name, [])
            lets = self.map.kinds[place].lets
            if lets == "far":
                waits = [told[other] + 2 for other in others if self.address(other) == self.address(source)]
                waits += [0 for other in before if self.address(other) == self.address(source)]
            else:
                waits = [told[other] + 2 for other in others if other == source and self.plain(source)]
                waits += [0 for other in before if other == source and self.plain(source)]
            if lets != "any":
                if not waits:
                    return None
                numbers.append(min(waits))
            name = name[2]
            place = self.map.stations[(place, self.address(name))]
        return (max(numbers), place, source) if name[0] == "own" else None

    def listed(self, pairs):
        """The numbers of all names if any value lists lent names as [19] says, or None."""
        told = {("own", self.map.addresses[host]): 0 for host in self.map.hosts}
        told.update({("blind", self.map.addresses[gate]): 0 for gate in self.map.kinds})
        told.update({name: 0 for name in self.left})
        if pairs.__class__ is not tuple:
            return None
        for pair in pairs:
            if pair.__class__ is not tuple or len(pair) != 2 or pair[0].__class__ is not int or pair[0] < 1:
                return None
            if not self.is_name(pair[1]) or pair[1][0] != "lent" or pair[1] in told:
                return None
            told[pair[1]] = pair[0]
        return told

    def shows_bound(self, x, y, thing):
        """Whether any value is a right bound, by the words of [19]."""
        if thing.__class__ is not tuple or len(thing) != 2:
            return False
        number, pairs = thing
        told = self.listed(pairs)
        if told is None or not (number is None or (number.__class__ is int and number >= 1)):
            return False
        for host in self.speakers:
            for name in told:
                found = self.earliest(told, host, name)
                if found is None or (number is not None and found[0] >= number):
                    continue
                if (host, found[1]) == (x, y):
                    return False
                if found[1] in self.speakers and not (found[2] in told and told[found[2]] <= found[0]):
                    return False
        return True

    def book(self):
        """The book of the rounds."""
        since, arrivals = self.closure()
        told = [(since[name], name) for name in since if since[name] > 0]
        return (tuple(sorted(told, key=lambda pair: (pair[0], text_of(pair[1])))),
                tuple(sorted(arrivals, key=lambda row: (row[0], row[1], text_of(row[2])))))

    def is_book(self, thing):
        """Whether a pair of told and rows, all of the right kinds, is a right book, by the words of [30]."""
        pairs, rows = thing
        told = self.listed(pairs)
        if told is None or list(pairs) != sorted(pairs, key=lambda pair: (pair[0], text_of(pair[1]))):
            return False
        packets = [(host, name, self.earliest(told, host, name)) for host in self.speakers for name in told]
        expected = [(found[0], host, name) + found[1:] for host, name, found in packets if found is not None]
        if list(rows) != sorted(expected, key=lambda row: (row[0], row[1], text_of(row[2]))):
            return False
        for number, name in pairs:
            if number != min([row[0] for row in rows if row[3] in self.speakers and row[4] == name], default=None):
                return False
        return all(row[4] in told for row in rows if row[3] in self.speakers)


def model_behind(world, event):
    """The model of the rounds behind an event, by the words of [33] and [34]."""
    old = NameModel(world)
    since, _ = old.closure()

    def innermost(name):
        while name[2][0] == "lent":
            name = name[2]
        return name

    def is_dead(name):
        if name[0] != "lent":
            return False
        if event[0] == "moves":
            return innermost(name)[1:3] == (old.map.realms[event[1]], ("own", old.map.addresses[event[1]]))
        return name[1] == event[1] or is_dead(name[2])

    def rest(name):
        if name[0] != "lent":
            return name
        key = old.address(name[3]) if isinstance(name[3], tuple) and is_dead(name[3]) else name[3]
        return ("lent", name[1], rest(name[2]), key)

    parts = world.parts
    if event[0] == "moves":
        parts = [part for part in parts if part[1] != event[1]]
        parts.append(("host", event[1], event[2], old.map.addresses[event[1]]))
    model = NameModel(World(*parts))
    model.left = sorted({rest(name) for name in since if name[0] == "lent" and not is_dead(name)}, key=text_of)
    for host in old.map.hosts:
        for name in since:
            target = ("blind", old.address(name)) if is_dead(name) else rest(name)
            for entry in old.way(host, name)[0][1:]:
                if not is_dead(entry):
                    model.before.setdefault(rest(entry), []).append(target)
    return model


class AgentModel:
    """The agreement of [22], with its words: all sends of earlier rounds are judged anew in each round."""

    def __init__(self, world, x, y, helper):
        self.model = NameModel(world)
        self.hosts = (x, y, helper)
        self.sends = []
        self.rounds = []

    def learned(self, host):
        """The lent names by which a host showed itself so far."""
        names = {row[3] for rows in self.rounds for row in rows
                 if row[0] == host and row[2] in self.hosts and row[2] != host and row[3][0] == "lent"}
        return tuple(sorted(names, key=text_of))

    def step(self):
        x, y, helper = self.hosts
        own = {host: ("own", self.model.map.addresses[host]) for host in self.hosts}
        sends = {(x, own[helper]), (x, own[y]), (y, own[helper]), (y, own[x])}
        sends |= {(x, name) for name in self.learned(y)} | {(y, name) for name in self.learned(x)}
        results = [(host, name) + self.model.walk(self.sends, host, name)
                   for host, name in sorted(sends, key=lambda send: (send[0], text_of(send[1])))]
        self.rounds.append([(row[0], row[1], row[3], row[4]) for row in results if row[2] == "heard"])
        self.sends += list(sends)
        return tuple(self.rounds[-1])

    def result(self):
        """The result of the last round, or None."""
        x, y, _ = self.hosts
        pairs = []
        for row in self.rounds[-1]:
            for other in self.rounds[-1]:
                if (row[0], row[2], other[0], other[2]) == (x, y, y, x) and (row[1], row[3]) == (other[3], other[1]):
                    pairs.append((row[1], row[3]))
        pairs = [pair for pair in pairs if self.model.plain(pair[0]) or self.model.plain(pair[1])]
        first = min(pairs, key=lambda pair: (text_of(pair[0]), text_of(pair[1])), default=None)
        return None if first is None else (len(self.rounds),) + first

    def quiet(self):
        """Whether nothing new was delivered in the last round."""
        earlier = {row[:2] for rows in self.rounds[:-1] for row in rows}
        return all(row[:2] in earlier for row in self.rounds[-1])


class RestModel(PortModel):
    """A network with time in which hosts move, of which all is kept as it was before each packet."""

    def __init__(self, world, ports):
        super().__init__(world, ports)
        self.now = 0
        self.lasts = {}

    def undo(self, count):
        for _ in range(count):
            self.entries, self.lasts, self.now, self.map = self.befores.pop()
            self.log.pop()

    def send(self, host, target):
        before = (self.copied_entries(), dict(self.lasts), self.now, self.map)
        result = super().send(host, target)
        self.befores[-1] = before
        return result

    def go_out(self, gate, source, target):
        shown = super().go_out(gate, source, target)
        self.lasts[(gate, shown[1])] = self.now
        return shown

    def wait(self, units):
        self.now += units
        rests = {gate: kind.rests for gate, kind in self.map.kinds.items()}
        self.entries = [entry for entry in self.entries if rests[entry[0]] is None
                        or self.lasts[(entry[0], entry[3])] + rests[entry[0]] > self.now]

    def fall(self, gate):
        self.entries = [entry for entry in self.entries if entry[0] != gate]

    def move_host(self, host, realm):
        """Makes a new map, as the old one is kept for packets that are taken back."""
        moved = Map(World())
        moved.kinds, moved.hosts, moved.addresses = self.map.kinds, self.map.hosts, self.map.addresses
        moved.realms = {**self.map.realms, host: realm}
        moved.stations = {(moved.realms[name], moved.addresses[name]): name for name in moved.realms}
        self.map = moved
