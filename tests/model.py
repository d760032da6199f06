"""Slow and plain second ways to work out what the package works out, from the parts of a world alone.

Nothing here uses the modules of the package but Kind and World, with which random worlds are made.
"""

from meetbehind.errors import MeetError
from meetbehind.kinds import Kind
from meetbehind.worlds import World


def random_world(random, gates=3, hosts=4, last=9):
    """A random world with about so many gates and hosts, one host at least; where last is low many addresses agree.

    Some worlds have strict gates alone, so that much takes many rounds.
    """
    strict = random.random() < 0.5
    parts = []
    for letter, name in [("gate", name) for name in "abcdef"[:random.randint(gates // 2, gates)]] + [
            ("host", name) for name in "stuvwxyz"[:random.randint(max(1, hosts // 2), hosts)]]:
        for _ in range(4):
            realm = random.choice([""] + [part[1] for part in parts if part[0] == "gate"])
            part = (letter, name, realm, random.randint(1, last))
            if letter == "gate":
                lends = random.choice(("both", "both", "far") if strict else Kind.LENDS)
                lets = random.choice(("both", "far", "far") if strict else Kind.LETS)
                part += (Kind(lends, lets, turns=random.random() < 0.4),)
            try:
                World(*parts, part)
            except MeetError:
                continue
            parts.append(part)
            break
    if not [part for part in parts if part[0] == "host"]:
        return random_world(random, gates, hosts, last)
    return World(*parts)


class Map:
    """A world as dicts."""

    def __init__(self, world):
        self.kinds = {part[1]: part[4] for part in world.parts if part[0] == "gate"}
        self.hosts = sorted(part[1] for part in world.parts if part[0] == "host")
        self.realms = {part[1]: part[2] for part in world.parts}
        self.addresses = {part[1]: part[3] for part in world.parts}
        self.stations = {(part[2], part[3]): part[1] for part in world.parts}


class PortModel:
    """A network: a list of entries [gate, inner, key, port, sent] that is made anew for each undo."""

    def __init__(self, world, ports):
        self.map = Map(world)
        self.ports = ports
        self.entries = []
        self.log = []
        self.used = {gate: [] for gate in self.map.kinds}
        self.befores = []

    def copied_entries(self):
        return [[gate, inner, key, port, list(sent)] for gate, inner, key, port, sent in self.entries]

    def undo(self, count):
        for _ in range(count):
            self.entries = self.befores.pop()
            self.log.pop()

    def send(self, host, target):
        self.befores.append(self.copied_entries())
        result = self.move(self.map.realms[host], (self.map.addresses[host], 1), target)
        self.log.append((host, target, result))
        return result

    def move(self, realm, source, target):
        where = self.map
        while True:
            station = where.stations.get((realm, target[0]))
            if station in where.kinds:
                return self.come_in(station, source, target)
            if station is not None:
                return ("heard", station, source) if target[1] == 1 else ("lost", "port", station)
            if realm == "":
                return ("lost", "nowhere", "")
            turned = where.addresses[realm] == target[0]
            if turned and not where.kinds[realm].turns:
                return ("lost", "unturned", realm)
            gate = realm
            source = self.go_out(gate, source, target)
            if turned:
                return self.come_in(gate, source, target)
            realm = where.realms[gate]

    def go_out(self, gate, source, target):
        key = {"one": None, "far": target[0], "both": target}[self.map.kinds[gate].lends]
        for entry in self.entries:
            if entry[:3] == [gate, source, key]:
                if target not in entry[4]:
                    entry[4].append(target)
                return (self.map.addresses[gate], entry[3])
        port = self.ports(gate, tuple(sorted(self.used[gate])))
        self.used[gate].append(port)
        self.entries.append([gate, source, key, port, [target]])
        return (self.map.addresses[gate], port)

    def come_in(self, gate, source, target):
        for entry in self.entries:
            if entry[0] == gate and entry[3] == target[1]:
                lets = self.map.kinds[gate].lets
                open_to = {"any": True, "far": any(sent[0] == source[0] for sent in entry[4]),
                           "both": source in entry[4]}[lets]
                return self.move(gate, source, entry[1]) if open_to else ("lost", "barred", gate)
        return ("lost", "closed", gate)

    def rows(self, gate):
        return tuple(sorted(((inner, key, port, tuple(sorted(sent)))
                             for one, inner, key, port, sent in self.entries if one == gate), key=lambda row: row[2]))


def text_of(name):
    """The text of a name."""
    if name[0] == "lent":
        key = "" if name[3] is None else f"|{name[3]}?" if isinstance(name[3], int) else f"|{text_of(name[3])}"
        return f"{name[1]}({text_of(name[2])}{key})"
    return f"{name[1]}" if name[0] == "own" else f"{name[1]}?"


class NameModel:
    """The rounds of [11], with the words of the document: each packet walks its way anew in each round."""

    def __init__(self, world, speakers=None, forgets=()):
        self.map = Map(world)
        self.forgets = forgets
        self.speakers = self.map.hosts if speakers is None else sorted(set(speakers))
        self.ways = {}

    def address(self, name):
        return self.map.addresses[name[1]] if name[0] == "lent" else name[1]

    def plain(self, name):
        if name[0] != "lent":
            return name[0] == "own"
        return (name[1] not in self.forgets and self.map.kinds[name[1]].lends != "both" and self.plain(name[2]))

    def tellable(self, name):
        return name[0] == "own" or (name[1] not in self.forgets and self.tellable(name[2]))

    def way(self, host, name):
        """(sources, place, word): where a packet goes, and the word if it is lost there before it comes in."""
        if (host, name) not in self.ways:
            self.ways[(host, name)] = self.new_way(host, name)
        return self.ways[(host, name)]

    def new_way(self, host, name):
        where = self.map
        address = self.address(name)
        sources = [("own", where.addresses[host])]
        realm = where.realms[host]
        while (realm, address) not in where.stations:
            if realm == "":
                return sources, "", "nowhere"
            turned = where.addresses[realm] == address
            if turned and not where.kinds[realm].turns:
                return sources, realm, "unturned"
            key = {"one": None, "far": address,
                   "both": name if self.plain(name) else address}[where.kinds[realm].lends]
            sources.append(("lent", realm, sources[-1], key))
            if turned:
                return sources, realm, None
            realm = where.realms[realm]
        return sources, where.stations[(realm, address)], None

    def walk(self, sends, host, name):
        sources, place, word = self.way(host, name)
        if word is not None:
            return ("lost", word, place)
        source = sources[-1]
        while place in self.map.kinds:
            if name[0] != "lent" or name[1] != place or place in self.forgets:
                return ("lost", "closed", place)
            outgoing = [target for sender, target in sends if name in self.way(sender, target)[0]]
            if not outgoing and name not in sources:
                return ("lost", "closed", place)
            lets = self.map.kinds[place].lets
            far = self.address(source) in [self.address(target) for target in outgoing]
            both = self.plain(source) and source in outgoing
            if not {"any": True, "far": far, "both": both}[lets]:
                return ("lost", "barred", place)
            name = name[2]
            place = self.map.stations[(place, self.address(name))]
        return ("heard", place, source) if name[0] == "own" else ("lost", "port", place)

    def closure(self):
        """(since, arrivals) of all rounds, three quiet ones at the end."""
        where = self.map
        since = {("own", where.addresses[host]): 0 for host in where.hosts}
        since.update({("blind", where.addresses[gate]): 0 for gate in where.kinds})
        arrivals = []
        arrived = set()
        sends = set()
        quiet = number = 0
        while quiet < 3:
            number += 1
            known = sorted(since, key=text_of)
            new = {}
            for host in self.speakers:
                for name in known:
                    result = self.walk(sends, host, name)
                    if result[0] == "lost":
                        continue
                    if (host, name) not in arrived:
                        arrived.add((host, name))
                        arrivals.append((number, host, name) + result[1:])
                    source = result[2]
                    if result[1] in self.speakers and source[0] == "lent" and self.tellable(source):
                        new.setdefault(source, number)
            sends.update((host, name) for host in self.speakers for name in known)
            quiet = 0 if [name for name in new if name not in since] else quiet + 1
            for name, first in new.items():
                since.setdefault(name, first)
        return since, arrivals

    def shows_plan(self, x, y, rows):
        """Whether rows are a plan in which y hears x in the last round, by the words of [18]."""
        if not rows or list(rows) != sorted(set(rows), key=lambda row: (row[0], row[1], text_of(row[2]))):
            return False
        told = {}
        heard = False
        last = max(row[0] for row in rows)
        for number, host, name in rows:
            if host not in self.speakers or (name[0] == "lent" and not told.get(name, number) < number):
                return False
            earlier = [(sender, target) for at, sender, target in rows if at < number]
            result = self.walk(earlier, host, name)
            if result[0] == "heard":
                heard = heard or (number == last and host == x and result[1] == y)
                if result[1] in self.speakers and self.tellable(result[2]):
                    told[result[2]] = min(number, told.get(result[2], number))
        return heard
