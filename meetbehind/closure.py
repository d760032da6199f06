"""The closure of all that can be known and delivered."""

from meetbehind.checks import is_round
from meetbehind.course import Course
from meetbehind.errors import NoRound
from meetbehind.given import check_host, given_gates, given_speakers
from meetbehind.names import check_name, show_name
from meetbehind.naming import known_at_first
from meetbehind.roads import roads_of


class Closure:
    """The rounds of a world in which these hosts speak and these gates forget, until nothing more can happen."""

    def __init__(self, world, *, speakers=None, forgets=()):
        self._world = world
        self._speakers = given_speakers(world, speakers)
        course = Course(roads_of(world, given_gates(world, forgets)), self._speakers)
        self._since = course.since
        self._rows = course.rows
        self._firsts = {}
        for number, sender, _, host, _ in self._rows:
            if (sender, host) not in self._firsts:
                self._firsts[(sender, host)] = number

    @property
    def world(self):
        """The world of the closure."""
        return self._world

    @property
    def speakers(self):
        """The hosts that speak, ascending."""
        return self._speakers

    @property
    def names(self):
        """All lent names that are told, by the round in which they are seen first, then by text."""
        return tuple(sorted(list(self._since), key=lambda name: (self._since[name], show_name(name))))

    @property
    def rounds(self):
        """The last round in which something is delivered for the first time, or 0."""
        return self._rows[-1][0] if self._rows else 0

    def told_in(self, name):
        """The round in which a speaking host sees the name first, 0 for own and blind names, or None."""
        check_name(self._world, name)
        return self._since.get(name) if name[0] == "lent" else 0

    def first(self, x, y):
        """The round in which y hears x first, or None."""
        check_host(self._world, x)
        check_host(self._world, y)
        return self._firsts.get((x, y))

    def heard(self, x, y):
        """Whether y hears x in some round."""
        return self.first(x, y) is not None

    def known(self, number):
        """All names that are known in the round of this number, sorted."""
        if not is_round(number):
            raise NoRound(number)
        told = [name for name in self._since if self._since[name] < number]
        return tuple(sorted(known_at_first(self._world) + told, key=show_name))

    def arrivals(self):
        """A row (round, sender, name, host, source) for the first delivery of each pair of a sender and a name."""
        for row in self._rows:
            yield row
