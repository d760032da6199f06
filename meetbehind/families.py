"""Least sets of items of which something holds, and the least sets that meet each of them.

A set is kept here as an integer, in which the bit of each of its items is set.
"""

from meetbehind.errors import TooMany

MOST_ITEMS = 8


def least_sets(items, holds):
    """All least sets of items of which a function holds, if it holds of greater sets, too."""
    if len(items) > MOST_ITEMS:
        raise TooMany(MOST_ITEMS)
    search = Search(items, holds)
    found = []
    blocking = [0]
    fresh = search.least_outside(blocking)
    while fresh is not None:
        found.append(fresh)
        blocking = _meeting_also(blocking, fresh)
        fresh = search.least_outside(blocking)
    return _in_order([search.members(mask) for mask in found])


def blockers(sets):
    """All least sets that meet each of these sets."""
    items = sorted(set([item for part in sets for item in part]))
    bits = {item: 1 << at for at, item in enumerate(items)}
    blocking = [0]
    for part in sets:
        blocking = _meeting_also(blocking, sum([bits[item] for item in sorted(set(part))]))
    return _in_order([tuple([item for item in items if bits[item] & mask]) for mask in blocking])


class Search:
    """Asks a function of which sets of items it holds, of none of them twice."""

    def __init__(self, items, holds):
        self._items = sorted(items)
        self._holds = holds
        self._answers = {}

    def members(self, mask):
        """The items of a set, ascending."""
        return tuple([item for at, item in enumerate(self._items) if mask >> at & 1])

    def least_outside(self, masks):
        """A least set that one of these sets does not meet, or None."""
        every = (1 << len(self._items)) - 1
        for mask in masks:
            if self._is_held(every & ~mask):
                return self._lessened(every & ~mask)
        return None

    def _lessened(self, mask):
        """A least set within a set."""
        for at in range(len(self._items)):
            fewer = mask & ~(1 << at)
            if fewer != mask and self._is_held(fewer):
                mask = fewer
        return mask

    def _is_held(self, mask):
        """Whether the function holds of a set."""
        if mask not in self._answers:
            holds = self._holds
            self._answers[mask] = bool(holds(self.members(mask)))
        return self._answers[mask]


def _meeting_also(masks, mask):
    """The least sets that meet a set, too, if masks are the least ones that meet some others."""
    kept = [one for one in masks if one & mask]
    bits = [1 << at for at in range(mask.bit_length()) if mask >> at & 1]
    longer = [one | bit for one in masks if not one & mask for bit in bits]
    # two of the longer ones are never within one another, as those of masks are not
    return kept + [one for one in longer if not any([other & ~one == 0 for other in kept])]


def _in_order(parts):
    """Tuples sorted by length, then ascending."""
    return tuple(sorted(parts, key=lambda part: (len(part), part)))
