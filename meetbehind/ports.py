"""How ports are chosen."""


class Ports:
    """Chooses given numbers first, in order, and then the least free ones."""

    def __init__(self, *numbers):
        self._numbers = numbers

    @property
    def numbers(self):
        """The given numbers."""
        return self._numbers

    def __call__(self, gate, used):
        taken = {number: True for number in used}
        for wish in self._numbers:
            if wish not in taken:
                return wish
        port = 2
        while port in taken:
            port += 1
        return port
