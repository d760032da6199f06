"""The examples of the document, word for word, in their order.

>>> from meetbehind.agents import Agent
>>> from meetbehind.beats import slowest
>>> from meetbehind.bookcheck import shows_book
>>> from meetbehind.books import book, first_in
>>> from meetbehind.closure import Closure
>>> from meetbehind.families import blockers
>>> from meetbehind.gatekinds import kinds_for
>>> from meetbehind.kinds import Kind
>>> from meetbehind.late import late, reasons
>>> from meetbehind.leftovers import remaining
>>> from meetbehind.looser import joined
>>> from meetbehind.moves import back, heard_again
>>> from meetbehind.named import NamedNet
>>> from meetbehind.names import fold, is_plain, owner, read_name, show_name, sources
>>> from meetbehind.nets import Net
>>> from meetbehind.plancheck import shows_plan
>>> from meetbehind.plans import play, reach
>>> from meetbehind.plantexts import show_rows
>>> from meetbehind.ports import Ports
>>> from meetbehind.questions import family
>>> from meetbehind.reader import read_bound, read_rows
>>> from meetbehind.relays import groups, relays
>>> from meetbehind.repairs import repairs
>>> from meetbehind.routes import hidden, reachable, way
>>> from meetbehind.shell import Shell
>>> from meetbehind.speakers import least_speakers, needed
>>> from meetbehind.talks import even, shows_talk
>>> from meetbehind.worlds import World

>>> ONE = World(("gate", "a", "", 5, Kind("both", "any")), ("gate", "b", "", 7, Kind("both", "far")),
...     ("host", "x", "a", 10), ("host", "y", "b", 10), ("host", "p", "", 1))
>>> [ONE.chain("x"), ONE.station("", 7), ONE.stations(""), str(Kind("one", "far", rests=30) & Kind("far", "any", turns=True))]
[('a',), 'b', ('p', 'a', 'b'), 'far/far rests 30']

>>> [way(ONE, "x", 10), way(ONE, "x", 5), way(ONE, "x", 1), way(ONE, "p", 10)]
[('station', (), 'x'), ('turn', (), 'a'), ('station', ('a',), 'p'), ('nowhere', (), None)]
>>> [list(reachable(ONE, "y")), hidden(ONE.with_part(("host", "z", "a", 1)), "a", 1)]
[[(1, 'p'), (5, 'a'), (10, 'y')], ('p',)]

>>> net = Net(ONE, choose=Ports(30, 40))
>>> [net.send("x", (1, 1)), net.send("y", (5, 30)), net.send("x", (7, 30)), net.entries("a")]
[('heard', 'p', (5, 30)), ('heard', 'x', (7, 30)), ('heard', 'y', (5, 40)), (((10, 1), (1, 1), 30, ((1, 1),)), ((10, 1), (7, 30), 40, ((7, 30),)))]

>>> a1 = ("lent", "a", ("own", 10), ("own", 1))
>>> [show_name(a1), is_plain(ONE, a1), fold(ONE, "b", a1), owner(ONE, a1), sources(ONE, "y", a1)[-1]]
['a(10|1)', False, 5, 'x', ('lent', 'b', ('own', 10), 5)]

>>> closure = Closure(ONE)
>>> [closure.first("y", "x"), closure.first("x", "y"), closure.rounds, [show_name(name) for name in closure.names]]
[2, 3, 4, ['a(10|1)', 'b(10|1)', 'b(10|5?)', 'a(10|7?)']]

>>> INNER = World(("gate", "c", "", 9, Kind("one", "any")), ("gate", "a", "c", 20, Kind("one", "any")), ("gate", "b", "c", 21, Kind("one", "far")),
...     ("host", "x", "a", 10), ("host", "y", "b", 10), ("host", "p", "", 1), ("host", "h", "c", 22), ("host", "z", "a", 22))
>>> [Closure(INNER).first("x", "y"), Closure(INNER).first("y", "x"), Closure(INNER, speakers=["x", "y", "p"]).first("x", "y")]
[2, 3, None]

>>> reach(ONE, "y", "x")
('heard', ((1, 'x', ('own', 1)), (2, 'y', ('lent', 'a', ('own', 10), ('own', 1)))))
>>> shows_plan(ONE, "x", "y", ((1, "x", ("own", 1)), (2, "y", a1), (3, "x", ("lent", "b", ("own", 10), 5))))
True

>>> STRICT = ONE.with_kind("b", Kind("both", "both"))
>>> late(STRICT, "x", "y")
(None, ((1, ('lent', 'a', ('own', 10), ('own', 1))), (1, ('lent', 'b', ('own', 10), ('own', 1))), (2, ('lent', 'b', ('own', 10), 5))))
>>> [row[1:] for row in reasons(STRICT, "x", "y") if row[0][0] == "lent"]
[('unturned', 'a'), ('barred', 'b'), ('barred', 'b')]

>>> shows_talk(ONE, "x", "y", ("talk", ((1, "x", ("own", 1)), (2, "y", a1), (3, "x", ("lent", "b", ("own", 10), 5)))))
True

>>> TALKERS = ONE.with_kind("a", Kind("both", "both")).with_kind("b", Kind("one", "any"))
>>> agent = Agent(TALKERS, "x", "y", "p")
>>> [len([step for step in agent.run()]), agent.result[0], show_name(agent.result[1]), show_name(agent.result[2])]
[3, 3, 'b(10)', 'a(10|b(10))']

>>> [least_speakers(ONE, "x", "y"), needed(ONE, "y", "x"), relays(ONE, "x", "y"), groups(ONE), repairs(ONE.with_kind("b", Kind("both", "both")), "x", "y")]
[(('p', 'x', 'y'),), ('p', 'x', 'y'), ('p',), (('p', 'x', 'y'),), (('a',), ('b',))]

>>> REST = ONE.with_kind("a", Kind("both", "any", rests=30)).with_kind("b", Kind("both", "far", rests=20))
>>> [slowest(REST, "y", "x")[:2], slowest(REST, "x", "y")[:2], back(ONE, "a", "x", "y"), back(ONE, "a", "y", "x"), back(ONE, "b", "x", "y")]
[('beat', 29), ('beat', 19), 1, 2, 2]

>>> CHAIN = World(("gate", "n", "", 5, Kind("far", "any")), ("gate", "m", "n", 3, Kind("one", "both")), ("gate", "b", "", 7, Kind("one", "both")),
...     ("host", "x", "m", 10), ("host", "y", "b", 10), ("host", "p", "", 1))
>>> [Closure(CHAIN).first("y", "x"), Closure(joined(CHAIN, "m")).first("y", "x"), str(joined(CHAIN, "m").kind("m")), joined(CHAIN, "m").address("m")]
[3, None, 'far/both', 5]

>>> [show_rows(((1, "x", ("own", 1)), (2, "y", a1))), read_bound("never\\n1 a(10|1)"), read_rows("")]
['1 x 1\\n2 y a(10|1)', (None, ((1, ('lent', 'a', ('own', 10), ('own', 1))),)), ()]

>>> Shell().say_all("gate a - 5 both/any", "gate b - 7 both/far", "host x a 10", "host y b 10", "host p - 1", "first x y", "talk x y",
...     "even x y", "send x 1:1", "entries a", "relays x y")
['ok', 'ok', 'ok', 'ok', 'ok', '3', 'talk', 'no', 'heard p 5:2', '10:1>2', 'p']

>>> [first_in(book(ONE), "x", "y"), len(book(ONE)[0]), shows_book(ONE, book(ONE)), shows_book(STRICT, book(ONE))]
[3, 4, True, False]

>>> [blockers((("a",), ("b", "c"))), family(STRICT, "x", "y", "gates"), family(STRICT, "x", "y", "helpers"), [str(kind) for kind in kinds_for(ONE, "b", "x", "y")[0]]]
[(('a', 'b'), ('a', 'c')), ((('a',), ('b',)), (('a', 'b'),)), ((), ((),)), ['both/far']]

>>> DRIFT = World(("gate", "a", "", 5, Kind("one", "any")), ("gate", "b", "", 7, Kind("both", "far")),
...     ("host", "x", "a", 10), ("host", "y", "b", 11), ("host", "p", "", 1))
>>> [[show_name(name) for name in remaining(DRIFT, ("falls", "a"))], back(DRIFT, "a", "x", "y"), heard_again(DRIFT, "x", "", "x", "y"), heard_again(DRIFT, "y", "a", "x", "y")]
[['b(11|1)', 'b(11|5?)'], 1, 2, 1]

Words of the text:

>>> even(ONE, "x", "y") is None
True

>>> [str(Kind("one", "any")), repr(Kind("one", "any")), repr(ONE), str(World()), World.read("") == World()]
['one/any', 'Kind(one/any)', 'World(2 gates, 3 hosts)', '', True]
>>> [show_name(read_name(text)) for text in ("10", "7?", "a(10)", "a(10|7?)", "a(10|b(10))", "a(b(c(10)))")]
['10', '7?', 'a(10)', 'a(10|7?)', 'a(10|b(10))', 'a(b(c(10)))']
>>> play(NamedNet(ONE), reach(ONE, "x", "y")[1])[-1]
('heard', 'y', ('lent', 'a', ('own', 10), 7))
>>> [blockers(()), blockers((("a",), ()))]
[((),), ()]
"""

import doctest
import unittest

import tests.test_examples


def load_tests(loader, suite, pattern):
    suite.addTests(doctest.DocTestSuite(tests.test_examples))
    return suite


if __name__ == "__main__":
    unittest.main()
