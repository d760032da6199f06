"""Texts of rows and bounds."""

from meetbehind.names import show_name

NEVER = "never"


def show_rows(rows):
    """The text of rows (round, host, name), a line for each."""
    return "\n".join([f"{number} {host} {show_name(name)}" for number, host, name in rows])


def show_bound(bound):
    """The text of a bound: a line for its round, and one for each pair (told, name)."""
    number, pairs = bound
    first = NEVER if number is None else str(number)
    return "\n".join([first] + [f"{told} {show_name(name)}" for told, name in pairs])
