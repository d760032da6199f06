"""Worlds of gates and hosts."""

from meetbehind.checks import is_address, is_word, LAST_ADDRESS
from meetbehind.errors import (InvalidKind, InvalidPart, InvalidText, Needed, NoRealm, NoStation, Taken, TooDeep,
                               TooMany)
from meetbehind.kinds import Kind, kind_of_words
from meetbehind.words import number_of


class World:
    """Gates and hosts, each in the open realm or in the realm inside a gate."""

    MOST_GATES = 6
    MOST_HOSTS = 8
    MOST_DEEP = 3

    def __init__(self, *parts):
        self._parts = parts
        self._kinds = {}
        self._addresses = {}
        self._realms = {}
        self._places = {}
        self._around = {"": ()}
        for index, part in enumerate(parts):
            if not _is_part(part):
                raise InvalidPart(index)
            self._check_place(index, part)
            self._check_number(index, part)
            self._take(part)
        self._gates = tuple(sorted(list(self._kinds)))
        self._hosts = tuple(sorted([name for name in self._realms if name not in self._kinds]))

    def _check_place(self, index, part):
        """Raises what is wrong with the realm, the name or the address of a part."""
        if part[2] not in self._around:
            raise NoRealm(index)
        if part[1] in self._realms or (part[2], part[3]) in self._places:
            raise Taken(index)

    def _check_number(self, index, part):
        """Raises if a part would stand too deep, or would be one too many."""
        if part[0] == "gate":
            if len(self._around[part[2]]) >= World.MOST_DEEP:
                raise TooDeep(index)
            if len(self._kinds) >= World.MOST_GATES:
                raise TooMany(World.MOST_GATES)
        elif len(self._realms) - len(self._kinds) >= World.MOST_HOSTS:
            raise TooMany(World.MOST_HOSTS)

    def _take(self, part):
        """Takes in a part that has been checked."""
        name, realm, address = part[1:4]
        self._addresses[name] = address
        self._realms[name] = realm
        self._places[(realm, address)] = name
        if part[0] == "gate":
            self._kinds[name] = part[4]
            self._around[name] = (name,) + self._around[realm]

    @property
    def parts(self):
        """The parts, as given."""
        return self._parts

    @property
    def gates(self):
        """The names of the gates, ascending."""
        return self._gates

    @property
    def hosts(self):
        """The names of the hosts, ascending."""
        return self._hosts

    def kind(self, gate):
        """The kind of a gate."""
        if not (isinstance(gate, str) and gate in self._kinds):
            raise NoStation(gate)
        return self._kinds[gate]

    def address(self, name):
        """The address of a station in its realm."""
        # asked often: a call less
        if not (isinstance(name, str) and name in self._addresses):
            raise NoStation(name)
        return self._addresses[name]

    def realm(self, name):
        """The realm of a station, which for a gate is the outer one."""
        if name not in self:
            raise NoStation(name)
        return self._realms[name]

    def chain(self, name):
        """The gates around the realm of a station, innermost first."""
        if name not in self:
            raise NoStation(name)
        return self._around[self._realms[name]]

    def station(self, realm, address):
        """The name of the station with this address in the realm, or None."""
        self._check_realm(realm)
        if not is_address(address):
            return None
        return self._places.get((realm, address))

    def stations(self, realm):
        """The names of the stations of a realm, ascending by address."""
        self._check_realm(realm)
        places = sorted([place for place in self._places if place[0] == realm])
        return tuple([self._places[place] for place in places])

    def _check_realm(self, realm):
        """Raises if a value is neither the open realm nor a gate."""
        if not (isinstance(realm, str) and realm in self._around):
            raise NoStation(realm)

    def with_part(self, part):
        """The world with one part more, last."""
        return World(*self._parts, part)

    def with_kind(self, gate, kind):
        """The world in which a gate has this kind."""
        if not (isinstance(gate, str) and gate in self._kinds):
            raise NoStation(gate)
        if not isinstance(kind, Kind):
            raise InvalidKind(0)
        return self.with_kinds({gate: kind})

    def with_kinds(self, kinds):
        """The world in which the gates of a dict have its kinds."""
        other = World()
        other._parts = tuple([part[:4] + (kinds[part[1]],) if part[1] in kinds else part for part in self._parts])
        other._kinds = {gate: kinds.get(gate, self._kinds[gate]) for gate in self._kinds}
        # all else is as it is here; it can be shared, as no world ever changes
        other._addresses = self._addresses
        other._realms = self._realms
        other._places = self._places
        other._around = self._around
        other._gates = self._gates
        other._hosts = self._hosts
        return other

    def without(self, name):
        """The world without a station."""
        if name not in self:
            raise NoStation(name)
        if name in self._kinds and self.stations(name):
            raise Needed(name)
        parts = [part for part in self._parts if part[1] != name]
        return World(*parts)

    @classmethod
    def read(cls, text):
        """The world that a text writes."""
        if not isinstance(text, str):
            raise InvalidText(0, 0)
        if text == "":
            return cls()
        parts = [_part_of_words(words.split(" "), line) for line, words in enumerate(text.split("\n"))]
        return cls(*parts)

    def __contains__(self, x):
        return isinstance(x, str) and x in self._realms

    def __len__(self):
        return len(self._parts)

    def __eq__(self, other):
        return isinstance(other, World) and _in_any_order(self) == _in_any_order(other)

    def __str__(self):
        return "\n".join([_line_of_part(part) for part in self._parts])

    def __repr__(self):
        return f"World({len(self._gates)} gates, {len(self._hosts)} hosts)"


def _in_any_order(world):
    """The parts of a world as they are compared, as worlds are equal whatever the order of their parts is."""
    return sorted(world.parts, key=lambda part: part[1])


def _is_part(value):
    """Whether any value has the form of a part."""
    if not isinstance(value, tuple) or len(value) < 4:
        return False
    word, name, realm, address = value[:4]
    if not (is_word(name) and (realm == "" or is_word(realm)) and is_address(address)):
        return False
    if word == "gate":
        return len(value) == 5 and isinstance(value[4], Kind)
    return word == "host" and len(value) == 4


def _line_of_part(part):
    """The line of a part in the text of its world."""
    return " ".join([part[0], part[1], part[2] or "-", str(part[3])] + [str(kind) for kind in part[4:]])


def _part_of_words(words, line):
    """The part that the words of a line write."""
    if words[0] not in ("gate", "host"):
        raise InvalidText(line, 0)
    for at in range(1, 4):
        if at >= len(words) or not _can_stand(words[at], at):
            raise InvalidText(line, at)
    word, name, realm, address = words[:4]
    place = (word, name, "" if realm == "-" else realm, int(address))
    if word == "gate":
        return place + (kind_of_words(words[4:], line, 4),)
    if len(words) > 4:
        raise InvalidText(line, 4)
    return place


def _can_stand(word, at):
    """Whether a word can be the name, the realm or the address of a part, as its index in the line says."""
    if at == 1:
        return is_word(word)
    if at == 2:
        return word == "-" or is_word(word)
    return number_of(word, 1, LAST_ADDRESS) is not None
