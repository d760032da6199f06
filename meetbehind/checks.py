"""Checks of single values, which may be of any kind."""

LETTERS = "abcdefghijklmnopqrstuvwxyz"
LONGEST_NAME = 8
LAST_ADDRESS = 99
LAST_PORT = 1000000000


def is_integer(value, least, most):
    """Whether a value is an integer within these bounds; True and False are none."""
    return isinstance(value, int) and not isinstance(value, bool) and least <= value <= most


def is_address(value):
    """Whether a value is an address."""
    return is_integer(value, 1, LAST_ADDRESS)


def is_endpoint(value):
    """Whether a value is an endpoint to which a packet can be sent."""
    return (isinstance(value, tuple) and len(value) == 2
            and is_address(value[0]) and is_integer(value[1], 0, LAST_PORT))


def is_round(value):
    """Whether a value is the number of a round."""
    return isinstance(value, int) and not isinstance(value, bool) and value >= 1


def is_same(value, right):
    """Whether any value is equal to a value of tuples, strings and integers, and also of the same kinds."""
    if isinstance(right, tuple):
        return (isinstance(value, tuple) and len(value) == len(right)
                and all([is_same(one, other) for one, other in zip(value, right)]))
    return not isinstance(value, bool) and value == right


def is_word(value):
    """Whether a value could be the name of a station."""
    # the length is asked first: a text may be long; without the letters at both ends nothing is left of letters alone
    return isinstance(value, str) and 1 <= len(value) <= LONGEST_NAME and value.strip(LETTERS) == ""
