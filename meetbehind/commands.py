"""The lines of a shell: which commands there are, and what the words behind them write."""

from meetbehind.errors import UnknownCommand
from meetbehind.forms import values_of
from meetbehind.kinds import kind_of_words

# the words of a kind, of which there may be several, and names of stations, of which there may be any number
KIND = "kind"
STATIONS = "stations"
MOST_KIND_WORDS = 4

FORMS = {
    "gate": ("station", "realm", "address", "kind"),
    "host": ("station", "realm", "address"),
    "kind": ("station", "kind"),
    "drop": ("station",),
    "world": (),
    "send": ("station", "endpoint"),
    "wait": ("count",),
    "fall": ("station",),
    "entries": ("station",),
    "first": ("station", "station"),
    "plan": ("station", "station"),
    "late": ("station", "station"),
    "talk": ("station", "station"),
    "even": ("station", "station"),
    "speakers": ("station", "station"),
    "relays": ("station", "station"),
    "repairs": ("station", "station"),
    "beat": ("station", "station"),
    "back": ("station", "station", "station"),
    "move": ("station", "realm"),
    "again": ("station", "realm", "station", "station"),
    "meeting": ("stations",),
    "family": ("question", "station", "station"),
    "agent": ("station", "station", "station"),
    "undo": ("count",),
}


def read_command(line):
    """The first word of a line, and a list of what the others write."""
    words = line.split(" ") if isinstance(line, str) else [""]
    if words[0] not in FORMS or not _fits(FORMS[words[0]], len(words) - 1):
        raise UnknownCommand(line)
    return (words[0], _values(words, FORMS[words[0]]))


def _fits(form, many):
    """Whether so many words behind the first one can be of this form."""
    if form == (STATIONS,):
        return many >= 1
    if form[-1:] == (KIND,):
        return len(form) <= many < len(form) + MOST_KIND_WORDS
    return many == len(form)


def _values(words, form):
    """What the words behind the first one write."""
    if form == (STATIONS,):
        return [values_of(words, 0, ["station"] * (len(words) - 1), 1)]
    if form[-1:] == (KIND,):
        many = len(form)
        return values_of(words[:many], 0, form[:-1], 1) + [kind_of_words(words[many:], 0, many)]
    return values_of(words, 0, form, 1)
