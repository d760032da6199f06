"""Rounds in which given packets are sent, judged by what was sent in earlier rounds."""

from meetbehind.course import needs_of
from meetbehind.packets import openings


class Judge:
    """Judges the packets of one round after another, coming in being judged by the packets of earlier rounds alone.

    Packets to lent names are sent only when these were seen, so that the entries are there. The gates in forgets lose
    their entries whenever a later round comes; a packet is sent again in each later round.
    """

    def __init__(self, world, forgets=()):
        self._world = world
        self._forgets = forgets
        self._opened = {}

    def do_round(self, packets):
        """Sends the packets of a round; those of them that are delivered."""
        delivered = [packet for packet in packets if self._is_delivered(packet)]
        for packet in packets:
            for pair in openings(self._world, packet):
                self._opened[pair] = True
        return delivered

    def _is_delivered(self, packet):
        needs = needs_of(self._world, packet, self._forgets)
        return needs is not None and all([pair in self._opened for pair in needs])

    def twin(self):
        """A judge in the same state, independent of this one."""
        other = Judge(self._world, self._forgets)
        other._opened = {pair: True for pair in self._opened}
        return other
