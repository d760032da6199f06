"""Rounds in which given packets are sent, judged by what was sent in earlier rounds."""


class Judge:
    """Judges the packets of one round after another, coming in being judged by the packets of earlier rounds alone.

    Packets to lent names are sent only when these were seen, so that the entries are there. Where gates forget their
    entries whenever a later round comes, each packet is sent again in each later round.
    """

    def __init__(self):
        self._opened = {}

    def do_round(self, packets):
        """Sends the packets of a round; those of them that are delivered."""
        delivered = [packet for packet in packets if self._is_delivered(packet)]
        for packet in packets:
            for pair in packet.gives:
                self._opened[pair] = True
        return delivered

    def _is_delivered(self, packet):
        return packet.needs is not None and all([pair in self._opened for pair in packet.needs])

    def twin(self):
        """A judge in the same state, independent of this one."""
        other = Judge()
        other._opened = {pair: True for pair in self._opened}
        return other
