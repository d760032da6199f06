"""What texts of rows and bounds write."""

from meetbehind.errors import InvalidText
from meetbehind.forms import values_of
from meetbehind.plantexts import NEVER


def read_rows(text):
    """The rows (round, host, name) that a text writes."""
    lines = _lines_of(text)
    if text == "":
        return ()
    return tuple([tuple(values_of(words, line, ("round", "station", "name"))) for line, words in enumerate(lines)])


def read_bound(text):
    """The bound that a text writes."""
    lines = _lines_of(text)
    first = values_of(lines[0], 0, ("round or never",))[0]
    pairs = [tuple(values_of(words, line, ("round", "name"))) for line, words in enumerate(lines) if line > 0]
    return (None if first == NEVER else first, tuple(pairs))


def _lines_of(text):
    """The words of each line of a text."""
    if not isinstance(text, str):
        raise InvalidText(0, 0)
    return [line.split(" ") for line in text.split("\n")]
