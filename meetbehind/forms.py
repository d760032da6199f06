"""The forms of the words of a line."""

from meetbehind.checks import is_word, LAST_ADDRESS
from meetbehind.errors import InvalidText
from meetbehind.names import name_of
from meetbehind.plantexts import NEVER
from meetbehind.questions import GATES, HELPERS, SPEAKERS
from meetbehind.words import number_of

MOST_NUMBER = 1000000


def _station(word):
    return word if is_word(word) else None


def _realm(word):
    return "" if word == "-" else _station(word)


def _address(word):
    return number_of(word, 1, LAST_ADDRESS)


def _count(word):
    return number_of(word, 0, MOST_NUMBER)


def _round(word):
    return number_of(word, 1, MOST_NUMBER)


def _round_or_never(word):
    return word if word == NEVER else _round(word)


def _endpoint(word):
    address, _, port = word.partition(":")
    pair = (_address(address), _count(port))
    return None if None in pair else pair


def _question(word):
    return word if word in (SPEAKERS, GATES, HELPERS) else None


def _name(word):
    return name_of(word)


# the value that a word of each form writes, or None if it is not of this form
READERS = {
    "station": _station, "realm": _realm, "address": _address, "count": _count, "round": _round,
    "round or never": _round_or_never, "endpoint": _endpoint, "question": _question, "name": _name,
}


def values_of(words, line, forms, begin=0):
    """The values of the words of a line from an index on; raises for the first that is lacking or has not its form."""
    values = []
    for at, form in enumerate(forms, start=begin):
        reader = READERS[form]
        value = reader(words[at]) if at < len(words) else None
        if value is None:
            raise InvalidText(line, at)
        values.append(value)
    if len(words) > begin + len(forms):
        raise InvalidText(line, begin + len(forms))
    return values
