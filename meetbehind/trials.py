"""Blocks behind which a network is as it was before."""


class Save:
    """The state of a network when a block began, and the save of the block around it."""

    def __init__(self, state, below):
        self.state = state
        self.below = below


class Trial:
    """A block behind which a network is as it was when the block began."""

    def __init__(self, net):
        self._net = net
        self._save = None

    def __enter__(self):
        # a trial may be entered again within its own block
        self._save = Save(self._net.state, self._save)
        self._net.state = self._net.state.copied()
        return self._net

    def __exit__(self, kind, value, trace):
        self._net.state = self._save.state
        self._save = self._save.below


class Attempt:
    """A block behind which a network is as it was when the block began, if an error ended the block."""

    def __init__(self, net):
        self._net = net
        self._before = None

    def __enter__(self):
        self._before = self._net.state
        self._net.state = self._before.copied()
        return self._net

    def __exit__(self, kind, value, trace):
        if kind is not None:
            self._net.state = self._before
