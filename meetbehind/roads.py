"""Packets by names: what they show, what they open, and what they need to be delivered."""

from meetbehind.names import show_name
from meetbehind.naming import address_in, can_be_told, key_by, known_at_first, lent_chain, owner_of, plain_in
from meetbehind.routes import all_routes


class Packet:
    """A packet of a host to a name.

    shows is a list of the sources that it has, one behind the other; gives a list of all that it opens at the entries
    by which it goes out; enters a list of the lent names by whose entries it has to come in, in order; needs a list
    of all that has to be opened before all of them let it in, in this order, or None if it is lost otherwise; end
    what becomes of it if they let it in.
    """

    def __init__(self, host, name, shows, gives, enters, needs, end):
        self.host = host
        self.name = name
        self.shows = shows
        self.gives = gives
        self.enters = enters
        self.needs = needs
        self.end = end


class Land:
    """Where the stations of a world are, and where packets go, whatever kinds the gates have."""

    def __init__(self, world):
        self.addresses = {}
        self.places = {}
        for _, name, realm, number in [part[:4] for part in world.parts]:
            self.addresses[name] = number
            self.places[(realm, number)] = name
        routes = all_routes(world)
        # the own name of each host, and the routes of its packets by the addresses of their targets
        self.owns = {host: ("own", self.addresses[host]) for host in world.hosts}
        self.ways = {host: routes[world.realm(host)] for host in world.hosts}
        # texts are kept, as names are sorted by them again and again
        self._texts = {}
        self.firsts = sorted(known_at_first(world), key=self.text)

    def text(self, name):
        """The text of a name."""
        if name not in self._texts:
            self._texts[name] = show_name(name)
        return self._texts[name]


class Roads:
    """The packets of a world in which some gates forget, each of them worked out once, when it is first asked for.

    The functions of naming may ask it like a world, about gates and places that are right.
    """

    def __init__(self, land, kinds, forgets=()):
        self._land = land
        self._kinds = kinds
        self._forgets = forgets
        # the gates that judge sources, at which a packet that goes out may open something
        self._judging = {gate: True for gate in kinds if kinds[gate].lets != "any"}
        # for each host a dict from names to packets; None for those that were left out so far
        self._made = {host: {} for host in land.ways}

    def with_kinds(self, kinds):
        """The packets where the gates have the kinds of a dict."""
        return Roads(self._land, kinds, self._forgets)

    def kind(self, gate):
        """The kind of a gate."""
        return self._kinds[gate]

    def address(self, name):
        """The address of a station."""
        return self._land.addresses[name]

    def station(self, realm, address):
        """The name of the station with this address in the realm."""
        return self._land.places[(realm, address)]

    def at_first(self):
        """The own and blind names, which are known before the first round, sorted."""
        return list(self._land.firsts)

    def text(self, name):
        """The text of a name."""
        return self._land.text(name)

    def is_told(self, name):
        """Whether a host that speaks and sees a name as a source tells it."""
        return name[0] == "lent" and (not self._forgets or can_be_told(name, self._forgets))

    def packet(self, host, name):
        """The packet of a host to a name."""
        made = self._made[host]
        if made.get(name) is None:
            number = address_in(self, name)
            gates, end = self._way(self._land.ways[host][number], name)
            made[name] = self._new_packet(host, name, number, gates, end)
        return made[name]

    def packets(self, hosts, names):
        """The packets of hosts to names, one host behind the other, but for some that change nothing."""
        numbers = [address_in(self, name) for name in names]
        found = []
        for host in hosts:
            made = self._made[host]
            routes = self._land.ways[host]
            for name, number in zip(names, numbers):
                if name in made:
                    packet = made[name]
                else:
                    gates, end = self._way(routes[number], name)
                    # what is lost and goes out by no gate that judges sources opens nothing, and is left out
                    counts = end[0] == "heard" or gates and any([gate in self._judging for gate in gates])
                    packet = made[name] = self._new_packet(host, name, number, gates, end) if counts else None
                if packet is not None:
                    found.append(packet)
        return found

    def _way(self, route, name):
        """The gates by which a packet goes out, and what becomes of it if all entries let it in."""
        word, gates, place = route
        if word == "nowhere":
            return (gates, ("lost", "nowhere", ""))
        if word == "turn":
            if not self._kinds[place].turns:
                return (gates, ("lost", "unturned", place))
            gates = gates + (place,)
        if place not in self._kinds:
            return (gates, ("heard", place) if name[0] == "own" else ("lost", "port", place))
        return (gates, ("heard", owner_of(self, name)) if name[:2] == ("lent", place) else ("lost", "closed", place))

    def _new_packet(self, host, name, number, gates, end):
        """The packet of a host to a name with this address that goes out by these gates and has this end."""
        shows = [self._land.owns[host]]
        gives = self._go_out(shows, name, number, gates) if gates else []
        if end[0] == "lost":
            return Packet(host, name, shows, gives, [], None, end)
        if name[0] == "own":
            return Packet(host, name, shows, gives, [], [], end)
        enters = lent_chain(name)
        return Packet(host, name, shows, gives, enters, self._needs(enters, shows[-1]), end)

    def _go_out(self, shows, name, number, gates):
        """Adds the sources that a packet shows behind gates; all that it opens there."""
        is_plain = plain_in(self, name, self._forgets)
        gives = []
        for gate in gates:
            kind = self._kinds[gate]
            entry = ("lent", gate, shows[-1], key_by(kind.lends, name, number, is_plain))
            shows.append(entry)
            lets = kind.lets
            if lets == "far":
                gives.append((entry, number))
            elif lets == "both" and is_plain:
                # no packet comes in from a name that is not plain
                gives.append((entry, name))
        return gives

    def _needs(self, enters, source):
        """All that has to be opened before these entries let in a source."""
        needs = []
        for entry in enters:
            lets = self._kinds[entry[1]].lets
            if lets == "far":
                needs.append((entry, address_in(self, source)))
            elif lets == "both":
                needs.append((entry, source))
        return needs


def kinds_of(world):
    """A dict from the gates of a world to their kinds."""
    return {gate: world.kind(gate) for gate in world.gates}


def roads_of(world, forgets=()):
    """The packets of a world while these gates forget."""
    return Roads(Land(world), kinds_of(world), forgets)
