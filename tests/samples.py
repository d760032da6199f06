"""Worlds, values and helpers that several tests use."""

from meetbehind.closure import Closure
from meetbehind.errors import InvalidKind, NoStation
from meetbehind.kinds import Kind
from meetbehind.named import NamedNet
from meetbehind.nets import Net
from meetbehind.ports import Ports
from meetbehind.worlds import World

ONE = World(("gate", "a", "", 5, Kind("both", "any")), ("gate", "b", "", 7, Kind("both", "far")),
            ("host", "x", "a", 10), ("host", "y", "b", 10), ("host", "p", "", 1))
STRICT = ONE.with_kind("b", Kind("both", "both"))
INNER = World(("gate", "c", "", 9, Kind("one", "any")), ("gate", "a", "c", 20, Kind("one", "any")),
              ("gate", "b", "c", 21, Kind("one", "far")), ("host", "x", "a", 10), ("host", "y", "b", 10),
              ("host", "p", "", 1), ("host", "h", "c", 22), ("host", "z", "a", 22))
CHAIN = World(("gate", "n", "", 5, Kind("far", "any")), ("gate", "m", "n", 3, Kind("one", "both")),
              ("gate", "b", "", 7, Kind("one", "both")), ("host", "x", "m", 10), ("host", "y", "b", 10),
              ("host", "p", "", 1))
# three gates within one another, each of which lends and lets in in another way; w stands deepest
DEEP = World(("gate", "a", "", 5, Kind("one", "any", turns=True)), ("gate", "b", "a", 6, Kind("far", "far")),
             ("gate", "c", "b", 7, Kind("both", "both")), ("host", "w", "c", 10), ("host", "v", "b", 5),
             ("host", "u", "a", 7), ("host", "t", "", 10))
SIX = World(("gate", "a", "", 1, Kind("one", "any")), ("gate", "b", "a", 1, Kind("far", "far")),
            ("gate", "c", "b", 1, Kind("both", "both", turns=True)), ("gate", "d", "", 2, Kind("both", "any")),
            ("gate", "e", "", 3, Kind("one", "both")), ("gate", "f", "e", 4, Kind("far", "any", turns=True)),
            ("host", "h", "a", 99), ("host", "i", "b", 99), ("host", "j", "c", 99), ("host", "k", "d", 99),
            ("host", "l", "e", 99), ("host", "m", "f", 98), ("host", "n", "", 99), ("host", "o", "", 97))

A1 = ("lent", "a", ("own", 10), ("own", 1))
B1 = ("lent", "b", ("own", 10), ("own", 1))
B5 = ("lent", "b", ("own", 10), 5)
A7 = ("lent", "a", ("own", 10), 7)


def nested(value, times):
    for _ in range(times):
        value = (value,)
    return value


def any_values():
    """Values of many kinds; each caller takes out what is right for it."""
    return [
        None, True, False, 0, 1, 2, 5, 10, 99, 100, -1, 10 ** 59, -10 ** 59, "", " ", "-", "a", "b", "x", "y", "p", "A",
        "abcdefgh", "abcdefghi", "a b", "x\n", "\n", "1", "10", "one", "one/any", "z" * 4000, (), (1,), (1, 1), (5, True),
        (True, 5), ("x",), ("own", 10), ("own", True), ("blind", 5), ["own", 10], [], [1], ["x"], {}, {"x": 1}, set(),
        {1, 2}, {"x"}, nested("x", 19), [[[["x"]]]], ("host", "x", "", 1), Kind("one", "any"), World(), ONE, Net(ONE),
        NamedNet(ONE), Ports(), Ports(2, 3), NoStation("x"), InvalidKind(0), Closure(ONE), Net(ONE).trial(), A1, list(A1),
        B5, ("lent", "b", ["own", 10], 5), ("lent", "b", ("own", 10), True), ("lent", "b", ("own", 10), None),
    ]


def same(one, two):
    """Whether two values are equal and of one kind, also within tuples and lists."""
    if one.__class__ != two.__class__:
        return False
    if isinstance(one, (tuple, list)):
        return len(one) == len(two) and all(same(left, right) for left, right in zip(one, two))
    return one == two


def values_but(rights):
    """All values of any_values that are none of these."""
    return [value for value in any_values() if not any(same(value, right) for right in rights)]


class Checks:
    """Assertions for test cases."""

    def assert_raises(self, error, fields, deed, *given, **named):
        """Asserts that the call raises just this error with these fields, a dict."""
        try:
            deed(*given, **named)
        except Exception as raised:  # any error at all is looked at
            self.assertIs(raised.__class__, error, f"{raised.__class__.__name__} {raised} for {given!r}")
            self.assertEqual(set(vars(raised)), set(fields))
            for name, value in fields.items():
                self.assertTrue(vars(raised)[name] is value or same(vars(raised)[name], value),
                                f"{vars(raised)[name]!r} is not {value!r}")
        else:
            self.fail(f"{error.__name__} was not raised for {given!r} {named!r}")

    def assert_same(self, one, two):
        """Asserts that values are equal and of one kind."""
        self.assertTrue(same(one, two), f"{one!r} is not {two!r}")
