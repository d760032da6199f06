"""Worlds, values and helpers that several tests use."""

from meetbehind.agents import Agent
from meetbehind.closure import Closure
from meetbehind.errors import InvalidKind, NoStation
from meetbehind.kinds import Kind
from meetbehind.movenets import MoveNet
from meetbehind.named import NamedNet
from meetbehind.nets import Net
from meetbehind.ports import Ports
from meetbehind.restnets import RestNet
from meetbehind.shell import Shell
from meetbehind.worlds import World

ONE = World(("gate", "a", "", 5, Kind("both", "any")), ("gate", "b", "", 7, Kind("both", "far")),
            ("host", "x", "a", 10), ("host", "y", "b", 10), ("host", "p", "", 1))
STRICT = ONE.with_kind("b", Kind("both", "both"))
INNER = World(("gate", "c", "", 9, Kind("one", "any")), ("gate", "a", "c", 20, Kind("one", "any")),
              ("gate", "b", "c", 21, Kind("one", "far")), ("host", "x", "a", 10), ("host", "y", "b", 10),
              ("host", "p", "", 1), ("host", "h", "c", 22), ("host", "z", "a", 22))
CHAIN = World(("gate", "n", "", 5, Kind("far", "any")), ("gate", "m", "n", 3, Kind("one", "both")),
              ("gate", "b", "", 7, Kind("one", "both")), ("host", "x", "m", 10), ("host", "y", "b", 10),
              ("host", "p", "", 1))
# three gates within one another, each of which lends and lets in in another way; w stands deepest
DEEP = World(("gate", "a", "", 5, Kind("one", "any", turns=True)), ("gate", "b", "a", 6, Kind("far", "far")),
             ("gate", "c", "b", 7, Kind("both", "both")), ("host", "w", "c", 10), ("host", "v", "b", 5),
             ("host", "u", "a", 7), ("host", "t", "", 10))
SIX = World(("gate", "a", "", 1, Kind("one", "any")), ("gate", "b", "a", 1, Kind("far", "far")),
            ("gate", "c", "b", 1, Kind("both", "both", turns=True)), ("gate", "d", "", 2, Kind("both", "any")),
            ("gate", "e", "", 3, Kind("one", "both")), ("gate", "f", "e", 4, Kind("far", "any", turns=True)),
            ("host", "h", "a", 99), ("host", "i", "b", 99), ("host", "j", "c", 99), ("host", "k", "d", 99),
            ("host", "l", "e", 99), ("host", "m", "f", 98), ("host", "n", "", 99), ("host", "o", "", 97))

TALKERS = ONE.with_kind("a", Kind("both", "both")).with_kind("b", Kind("one", "any"))
DRIFT = World(("gate", "a", "", 5, Kind("one", "any")), ("gate", "b", "", 7, Kind("both", "far")),
              ("host", "x", "a", 10), ("host", "y", "b", 11), ("host", "p", "", 1))
# six gates, three within one another, and eight hosts; much is told in it
BIG = World(("gate", "a", "", 10, Kind("both", "far")), ("gate", "b", "a", 11, Kind("both", "any")),
            ("gate", "c", "b", 12, Kind("far", "any")), ("gate", "d", "b", 13, Kind("one", "any", turns=True)),
            ("gate", "e", "a", 14, Kind("both", "any")), ("gate", "f", "", 15, Kind("far", "any", turns=True)),
            ("host", "s", "f", 40), ("host", "t", "f", 41), ("host", "u", "", 42), ("host", "v", "e", 43),
            ("host", "w", "f", 44), ("host", "x", "c", 45), ("host", "y", "", 46), ("host", "z", "e", 47))

A1 = ("lent", "a", ("own", 10), ("own", 1))
B1 = ("lent", "b", ("own", 10), ("own", 1))
B5 = ("lent", "b", ("own", 10), 5)
A7 = ("lent", "a", ("own", 10), 7)


def nested(value, times):
    for _ in range(times):
        value = (value,)
    return value


def any_values():
    """Values of many kinds; each caller takes out what is right for it."""
    return [
        None, True, False, 0, 1, 2, 5, 10, 99, 100, -1, 10 ** 59, -10 ** 59, "", " ", "-", "a", "b", "x", "y", "p", "A",
        "abcdefgh", "abcdefghi", "a b", "x\n", "\n", "1", "10", "one", "one/any", "z" * 4000, (), (1,), (1, 1), (5, True),
        (True, 5), ("x",), ("own", 10), ("own", True), ("blind", 5), ["own", 10], [], [1], ["x"], {}, {"x": 1}, set(),
        {1, 2}, {"x"}, nested("x", 19), [[[["x"]]]], ("host", "x", "", 1), Kind("one", "any"), World(), ONE, Net(ONE),
        NamedNet(ONE), RestNet(ONE), MoveNet(ONE), Shell(), Agent(ONE, "x", "y", "p"), Ports(), Ports(2, 3),
        NoStation("x"), InvalidKind(0), Closure(ONE), Net(ONE).trial(), A1, list(A1), B5, ("lent", "b", ["own", 10], 5),
        ("lent", "b", ("own", 10), True), ("lent", "b", ("own", 10), None),
    ]


def same(one, two):
    """Whether two values are equal and of one kind, also within tuples and lists."""
    if one.__class__ != two.__class__:
        return False
    if isinstance(one, (tuple, list)):
        return len(one) == len(two) and all(same(left, right) for left, right in zip(one, two))
    return one == two


def values_but(rights):
    """All values of any_values that are none of these."""
    return [value for value in any_values() if not any(same(value, right) for right in rights)]


def changed_here(thing):
    """Values that differ from a value of tuples, integers, strings and None, but not within its parts."""
    found = [None, True, [], (thing,)]
    if isinstance(thing, int):
        found += [thing + 1, thing - 1, -thing, thing == 1, str(thing), 10 ** 59, (thing, thing)]
    elif isinstance(thing, str):
        found += ["", thing + "a", "x", "y", "a", "b", "own", "blind", "lent", [thing], 1]
    elif isinstance(thing, tuple):
        found += [list(thing), thing + thing, thing[::-1], {part: 1 for part in thing}]
        for at, part in enumerate(thing):
            found += [thing[:at] + thing[at + 1:], thing[:at] + (part,) + thing[at:]]
    return [value for value in found if not same(value, thing)]


def changed(thing):
    """Values that differ in one part, at any depth, from a value of tuples, integers, strings and None."""
    found = changed_here(thing)
    for at, part in enumerate(thing if isinstance(thing, tuple) else ()):
        found += [thing[:at] + (other,) + thing[at + 1:] for other in changed(part)]
    return found


def some_changed(thing, rng, many):
    """So many values like those of changed, at random."""
    return [one_changed(thing, rng) for _ in range(many)]


def one_changed(thing, rng):
    if isinstance(thing, tuple) and thing and rng.random() < 0.8:
        at = rng.randrange(len(thing))
        return thing[:at] + (one_changed(thing[at], rng),) + thing[at + 1:]
    return rng.choice(changed_here(thing))


class Checks:
    """Assertions for test cases."""

    def assert_raises(self, error, fields, deed, *given, **named):
        """Asserts that the call raises just this error with these fields, a dict."""
        try:
            deed(*given, **named)
        except Exception as raised:  # any error at all is looked at
            self.assertIs(raised.__class__, error, f"{raised.__class__.__name__} {raised} for {given!r}")
            self.assertEqual(set(vars(raised)), set(fields))
            for name, value in fields.items():
                self.assertTrue(vars(raised)[name] is value or same(vars(raised)[name], value),
                                f"{vars(raised)[name]!r} is not {value!r}")
        else:
            self.fail(f"{error.__name__} was not raised for {given!r} {named!r}")

    def assert_same(self, one, two):
        """Asserts that values are equal and of one kind."""
        self.assertTrue(same(one, two), f"{one!r} is not {two!r}")
