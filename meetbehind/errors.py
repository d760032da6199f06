"""The errors of the package."""


class MeetError(ValueError):
    """What is wrong with an argument of the package."""


class InvalidKind(MeetError):
    """The argument of a kind at this place, from 0 to 3, is none."""

    def __init__(self, place):
        self.place = place


class InvalidPart(MeetError):
    """The part of a world with this index has not the form of a part."""

    def __init__(self, index):
        self.index = index


class NoRealm(MeetError):
    """The part with this index stands in a realm that is not there."""

    def __init__(self, index):
        self.index = index


class Taken(MeetError):
    """The part with this index has a name or an address that is taken."""

    def __init__(self, index):
        self.index = index


class TooDeep(MeetError):
    """The gate with this index would have too many gates around its inside."""

    def __init__(self, index):
        self.index = index


class Needed(MeetError):
    """The gate of this name cannot be taken out of its world."""

    def __init__(self, name):
        self.name = name


class InvalidTarget(MeetError):
    """This is no target of a packet, or no address."""

    def __init__(self, target):
        self.target = target


class InvalidPort(MeetError):
    """A gate cannot lend this port."""

    def __init__(self, port):
        self.port = port


class InvalidName(MeetError):
    """This is no name of the world."""

    def __init__(self, name):
        self.name = name


class InvalidTime(MeetError):
    """This is no number of time units."""

    def __init__(self, time):
        self.time = time


class Clash(MeetError):
    """A station has the address with this number already."""

    def __init__(self, number):
        self.number = number


class InvalidQuestion(MeetError):
    """This is none of the questions."""

    def __init__(self, question):
        self.question = question


class InvalidEvent(MeetError):
    """This is no event of the world."""

    def __init__(self, event):
        self.event = event


class InvalidText(MeetError):
    """This word of this line cannot stand there, or is lacking."""

    def __init__(self, line, word):
        self.line = line
        self.word = word


class UnknownCommand(MeetError):
    """This line is no command."""

    def __init__(self, command):
        self.command = command


class NoStation(KeyError):
    """This is no station, host or gate, as it had to be."""

    def __init__(self, name):
        self.name = name


class NoRound(IndexError):
    """This is no number of a round."""

    def __init__(self, number):
        self.number = number


class NothingToUndo(LookupError):
    """So many packets cannot be taken back."""

    def __init__(self, count):
        self.count = count


class NotHeard(LookupError):
    """This host does not hear the other one."""

    def __init__(self, host):
        self.host = host


class NotSeen(LookupError):
    """No host has seen this name."""

    def __init__(self, name):
        self.name = name


class Heard(RuntimeError):
    """The host is heard, in the round of this number."""

    def __init__(self, number):
        self.number = number


class TooMany(OverflowError):
    """There would be more than this limit."""

    def __init__(self, limit):
        self.limit = limit
