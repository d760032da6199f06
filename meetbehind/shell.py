"""A world and a network of it, which are asked and changed by lines."""

from meetbehind.answers import answer_of
from meetbehind.commands import read_command
from meetbehind.deeds import changed_by, DONE, done_by, is_change, is_deed
from meetbehind.movenets import MoveNet
from meetbehind.worlds import World


class Shell:
    """Answers lines about a world, at first an empty one, and about a network of it in which hosts move."""

    def __init__(self):
        # the world is that of the network, also when hosts have moved
        self._net = MoveNet(World())

    def say(self, line):
        """The answer to a line."""
        word, values = read_command(line)
        if is_change(word):
            self._net = MoveNet(changed_by(self._net.world, word, values))
            return DONE
        if is_deed(word):
            return done_by(self._net, word, values)
        return answer_of(self._net.world, word, values)

    def say_all(self, *lines):
        """The answers to lines, one after another; if one of them is refused, nothing has changed."""
        other = Shell()
        other._net = self._net.twin()
        answers = [other.say(line) for line in lines]
        self._net = other._net
        return answers
