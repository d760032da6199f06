"""Kinds of gates."""

from meetbehind.checks import is_integer
from meetbehind.errors import InvalidKind, InvalidText
from meetbehind.words import number_of

LEAST_REST = 2
MOST_REST = 1000000
# how loose the words for lending and for letting in are
LOOSE = {"both": 0, "far": 1, "one": 2, "any": 2}


class Kind:
    """How a gate lends ports, what it lets in, whether it turns packets back, and when its entries end."""

    LENDS = ("both", "far", "one")
    LETS = ("both", "far", "any")

    def __init__(self, lends, lets, *, turns=False, rests=None):
        if lends not in Kind.LENDS:
            raise InvalidKind(0)
        if lets not in Kind.LETS:
            raise InvalidKind(1)
        if not isinstance(turns, bool):
            raise InvalidKind(2)
        if rests is not None and not is_integer(rests, LEAST_REST, MOST_REST):
            raise InvalidKind(3)
        self._lends = lends
        self._lets = lets
        self._turns = turns
        self._rests = rests

    @property
    def lends(self):
        """By what the gate lends ports: "one", "far" or "both"."""
        return self._lends

    @property
    def lets(self):
        """What the gate lets in: "any", "far" or "both"."""
        return self._lets

    @property
    def turns(self):
        """Whether the gate turns packets back."""
        return self._turns

    @property
    def rests(self):
        """After how many time units entries end, or None."""
        return self._rests

    def within(self, other):
        """Whether each part is at most as loose as that of the other kind."""
        return all([mine <= yours for mine, yours in zip(_ranks(self), _ranks(other))])

    @classmethod
    def read(cls, text):
        """The kind that a text writes."""
        if not isinstance(text, str):
            raise InvalidText(0, 0)
        return kind_of_words(text.split(" "), 0, 0)

    def __or__(self, other):
        if not isinstance(other, Kind):
            return NotImplemented
        return _kind_of_ranks([max(mine, yours) for mine, yours in zip(_ranks(self), _ranks(other))])

    def __and__(self, other):
        if not isinstance(other, Kind):
            return NotImplemented
        return _kind_of_ranks([min(mine, yours) for mine, yours in zip(_ranks(self), _ranks(other))])

    def __eq__(self, other):
        return isinstance(other, Kind) and _ranks(self) == _ranks(other)

    def __str__(self):
        words = [self._lends + "/" + self._lets]
        if self._turns:
            words.append("turns")
        if self._rests is not None:
            words.append("rests " + str(self._rests))
        return " ".join(words)

    def __repr__(self):
        return f"Kind({str(self)})"


def _ranks(kind):
    """How loose each part of a kind is, as numbers."""
    rests = MOST_REST + 1 if kind.rests is None else kind.rests
    return [LOOSE[kind.lends], LOOSE[kind.lets], int(kind.turns), rests]


def _kind_of_ranks(ranks):
    """The kind whose parts are as loose as these numbers say."""
    lends, lets, turns, rests = ranks
    limit = None if rests > MOST_REST else rests
    return Kind(Kind.LENDS[lends], Kind.LETS[lets], turns=turns == 1, rests=limit)


def kind_of_words(words, line, before):
    """The kind of the words of a text; in an error they stand in this line, behind so many others."""
    if not words:
        raise InvalidText(line, before)
    lends, _, lets = words[0].partition("/")
    if lends not in Kind.LENDS or lets not in Kind.LETS:
        raise InvalidText(line, before)
    at = 1
    turns = words[at:at + 1] == ["turns"]
    if turns:
        at += 1
    rests = None
    if words[at:at + 1] == ["rests"]:
        at += 1
        rests = number_of(words[at], LEAST_REST, MOST_REST) if at < len(words) else None
        if rests is None:
            raise InvalidText(line, before + at)
        at += 1
    if at < len(words):
        raise InvalidText(line, before + at)
    return Kind(lends, lets, turns=turns, rests=rests)
