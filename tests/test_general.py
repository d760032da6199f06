"""The general rules ([2]): how arguments are passed, what belongs to the caller, what errors leave as it was."""

import inspect
import unittest

from meetbehind import (agents, beats, bookcheck, books, closure, families, familycheck, gatekinds, kinds, late,
                        latecheck, leftovers, looser, movenets, moves, named, names, nets, packets, plancheck, plans,
                        plantexts, ports, questions, reader, relays, repairs, restnets, routes, shell, speakers, talks,
                        worlds)
from meetbehind.closure import Closure
from meetbehind.kinds import Kind
from meetbehind.named import NamedNet
from meetbehind.worlds import World
from tests.samples import any_values, Checks, INNER, ONE, SIX, STRICT

FUNCTIONS = {
    routes: {"way": "(world, host, address)", "hidden": "(world, realm, address)", "reachable": "(world, host)",
             "free_addresses": "(world)"},
    nets: {"tried": "(net, deed)"},
    names: {"is_name": "(world, thing)", "address_of": "(world, name)", "is_plain": "(world, name)",
            "owner": "(world, name)", "fold": "(world, gate, name)", "depth": "(world, name)",
            "sources": "(world, host, name)", "show_name": "(name)", "read_name": "(text)"},
    packets: {"walk": "(world, sends, host, name, *, forgets=())"},
    plans: {"reach": "(world, x, y, *, speakers=None)", "play": "(net, rows)"},
    plancheck: {"shows_plan": "(world, x, y, thing, *, speakers=None)"},
    late: {"late": "(world, x, y, *, speakers=None)", "reasons": "(world, x, y, *, speakers=None)"},
    latecheck: {"shows_late": "(world, x, y, thing, *, speakers=None)"},
    books: {"book": "(world, *, speakers=None)", "first_in": "(book, x, y)"},
    bookcheck: {"shows_book": "(world, thing, *, speakers=None)", "shows_book_after": "(world, event, thing)"},
    leftovers: {"event_in": "(world, event)", "remaining": "(world, event)"},
    talks: {"talk": "(world, x, y, *, speakers=None)", "shows_talk": "(world, x, y, thing, *, speakers=None)",
            "meeting": "(world, hosts, *, speakers=None)", "even": "(world, x, y, *, speakers=None)"},
    families: {"least_sets": "(items, holds)", "blockers": "(sets)"},
    questions: {"set_up": "(world, question, items)", "family": "(world, x, y, question)",
                "shown_family": "(world, x, y, question)"},
    speakers: {"least_speakers": "(world, x, y)", "needed": "(world, x, y)"},
    relays: {"relays": "(world, x, y)", "groups": "(world)"},
    repairs: {"repairs": "(world, x, y)", "opened": "(world, gates)"},
    familycheck: {"shows_family": "(world, x, y, question, thing)"},
    gatekinds: {"kinds_for": "(world, gate, x, y)", "shown_kinds": "(world, gate, x, y)",
                "shows_kinds": "(world, gate, x, y, thing)"},
    moves: {"book_after": "(world, event)", "back": "(world, gate, x, y)", "heard_again": "(world, host, realm, x, y)"},
    looser: {"looser": "(one, two)", "joined": "(world, gate)", "renamed": "(world, table)", "grown": "(world, name, realm)"},
    plantexts: {"show_rows": "(rows)", "show_bound": "(bound)"},
    reader: {"read_rows": "(text)", "read_bound": "(text)"},
    beats: {"slowest": "(world, x, y, *, speakers=None)", "shows_beat": "(world, x, y, thing, *, speakers=None)"},
}
CLASSES = {
    (kinds, "Kind"): {"": "(lends, lets, *, turns=False, rests=None)", "within": "(self, other)", "read": "(text)"},
    (worlds, "World"): {
        "": "(*parts)", "kind": "(self, gate)", "address": "(self, name)", "realm": "(self, name)",
        "chain": "(self, name)", "station": "(self, realm, address)", "stations": "(self, realm)",
        "with_part": "(self, part)", "with_kind": "(self, gate, kind)", "without": "(self, name)", "read": "(text)"},
    (ports, "Ports"): {"": "(*numbers)", "__call__": "(self, gate, used)"},
    (nets, "Net"): {
        "": "(world, *, choose=None)", "send": "(self, host, target)", "entries": "(self, gate)", "seen": "(self, host)",
        "undo": "(self, count=1)", "twin": "(self)", "trial": "(self)"},
    (named, "NamedNet"): {
        "": "(world, *, choose=None)", "send": "(self, host, target)", "entries": "(self, gate)", "seen": "(self, host)",
        "undo": "(self, count=1)", "twin": "(self)", "trial": "(self)", "send_to": "(self, host, name)",
        "endpoint": "(self, name)"},
    (restnets, "RestNet"): {
        "": "(world, *, choose=None)", "send": "(self, host, target)", "entries": "(self, gate)", "seen": "(self, host)",
        "undo": "(self, count=1)", "twin": "(self)", "trial": "(self)", "wait": "(self, units)", "fall": "(self, gate)"},
    (movenets, "MoveNet"): {
        "": "(world, *, choose=None)", "send": "(self, host, target)", "entries": "(self, gate)", "seen": "(self, host)",
        "undo": "(self, count=1)", "twin": "(self)", "trial": "(self)", "wait": "(self, units)", "fall": "(self, gate)",
        "move": "(self, host, realm)"},
    (shell, "Shell"): {"": "()", "say": "(self, line)", "say_all": "(self, *lines)"},
    (closure, "Closure"): {
        "": "(world, *, speakers=None, forgets=())", "told_in": "(self, name)", "first": "(self, x, y)",
        "heard": "(self, x, y)", "known": "(self, number)", "arrivals": "(self)"},
    (agents, "Agent"): {"": "(world, x, y, helper)", "step": "(self)", "run": "(self)", "twin": "(self)"},
}


class SignaturesTest(unittest.TestCase):

    def test_functions(self):
        for module, functions in FUNCTIONS.items():
            for name, text in functions.items():
                function = getattr(module, name)
                self.assertEqual(function.__module__, module.__name__)
                self.assertEqual(str(inspect.signature(function)), text, name)

    def test_classes(self):
        for (module, name), methods in CLASSES.items():
            one = getattr(module, name)
            self.assertEqual(one.__module__, module.__name__)
            for method, text in methods.items():
                self.assertEqual(str(inspect.signature(getattr(one, method) if method else one)), text, method)


class ObjectsTest(Checks, unittest.TestCase):

    def test_a_caller_cannot_change_an_object_by_what_it_got(self):
        net = NamedNet(ONE)
        net.send_to("x", ("own", 1))
        one = Closure(ONE)
        for got in (ONE.parts, ONE.gates, ONE.hosts, ONE.chain("x"), ONE.stations(""), net.log, net.told,
                    net.entries("a"), net.known_names, one.speakers, one.names, one.known(2), plans.reach(ONE, "x", "y")):
            self.assert_frozen(got)
        agent = agents.Agent(ONE, "x", "y", "p")
        for got in (late.late(ONE, "x", "y"), books.book(ONE), leftovers.remaining(ONE, ("falls", "a")),
                    talks.talk(ONE, "x", "y"), talks.talk(STRICT, "x", "y"), talks.meeting(ONE, ["x", "y"]),
                    talks.even(ONE, "x", "p"), agent.step(), agent.learned, agent.result, agent.twin().step(),
                    families.least_sets(["a"], len), families.blockers([("a", "b")]),
                    questions.set_up(ONE, "speakers", ["x"])[1], questions.family(ONE, "x", "y", "gates"),
                    questions.shown_family(ONE, "x", "y", "speakers"), speakers.least_speakers(ONE, "x", "y"),
                    speakers.needed(ONE, "x", "y"), relays.relays(ONE, "x", "y"), relays.groups(ONE),
                    repairs.repairs(STRICT, "x", "y"), gatekinds.kinds_for(ONE, "a", "y", "x"),
                    gatekinds.shown_kinds(ONE, "a", "y", "x"), beats.slowest(ONE, "x", "y"), beats.slowest(STRICT, "x", "y"),
                    moves.book_after(ONE, ("falls", "a")), moves.back(ONE, "a", "x", "y"),
                    plantexts.show_rows([(1, "x", ("own", 1))]), plantexts.show_bound((None, ())),
                    reader.read_rows("1 x 1"), reader.read_bound("never\n1 a(10)"), shell.Shell().say("world"),
                    self.rest_net().log, self.rest_net().entries("a"), self.rest_net().now):
            self.assert_frozen(got)

    def rest_net(self):
        net = restnets.RestNet(ONE)
        net.send("x", (1, 1))
        net.wait(3)
        return net

    def assert_frozen(self, value):
        self.assertIsInstance(value, (tuple, str, int, Kind, type(None)))
        if isinstance(value, tuple):
            for part in value:
                self.assert_frozen(part)

    def test_arguments_stay_as_they_are(self):
        given = ["y", "x", "p", "x"]
        forgets = ["b", "a"]
        sends = [("y", ("own", 1)), ("x", ("own", 1))]
        Closure(ONE, speakers=given, forgets=forgets)
        plans.reach(ONE, "x", "y", speakers=given)
        packets.walk(ONE, sends, "x", ("own", 1), forgets=forgets)
        plancheck.shows_plan(ONE, "x", "y", plans.reach(ONE, "x", "y")[1], speakers=given)
        latecheck.shows_late(ONE, "x", "y", late.late(ONE, "x", "y", speakers=given), speakers=given)
        bookcheck.shows_book(ONE, books.book(ONE, speakers=given), speakers=given)
        list(late.reasons(STRICT, "x", "y", speakers=given))
        talks.shows_talk(ONE, "x", "y", talks.talk(ONE, "x", "y", speakers=given), speakers=given)
        talks.even(ONE, "x", "y", speakers=given)
        talks.meeting(ONE, given, speakers=given)
        questions.set_up(ONE, "speakers", given)
        questions.set_up(ONE, "gates", forgets)
        questions.set_up(ONE, "helpers", forgets)
        repairs.opened(ONE, forgets)
        beats.shows_beat(ONE, "x", "y", beats.slowest(ONE, "x", "y", speakers=given), speakers=given)
        self.assertEqual((given, forgets), (["y", "x", "p", "x"], ["b", "a"]))
        self.assertEqual(sends, [("y", ("own", 1)), ("x", ("own", 1))])

    def test_a_closure_does_not_depend_on_later_lists(self):
        given = ["x"]
        one = Closure(ONE, speakers=given)
        given.append("y")
        self.assertEqual((one.speakers, one.first("y", "p")), (("x",), None))

    def test_the_same_is_returned_each_time(self):
        for world in (ONE, INNER, SIX):
            for x in world.hosts:
                for y in world.hosts:
                    for ask in (plans.reach, late.late, speakers.least_speakers, repairs.repairs, relays.relays, beats.slowest):
                        self.assert_same(ask(world, x, y), ask(World(*world.parts), x, y))
                    if x != y:
                        self.assert_same(talks.talk(world, x, y), talks.talk(World(*world.parts), x, y))

    def test_questions_take_any_value_without_other_errors(self):
        for value in any_values():
            self.assertIn(value in ONE, (True, False))
            self.assertIn(names.is_name(ONE, value), (True, False))
            self.assertIn(ONE == value, (True, False))
            self.assertIn(Kind("one", "any") == value, (True, False))
            self.assertIn(NamedNet(ONE) == value, (True, False))
            self.assertIn(restnets.RestNet(ONE) == value, (True, False))
            self.assertIn(movenets.MoveNet(ONE) == value, (True, False))
            self.assertIsNone(ONE.station("", value) if not isinstance(value, int) else None)
            for ask in (plancheck.shows_plan, latecheck.shows_late, talks.shows_talk, beats.shows_beat):
                self.assertIs(ask(ONE, "x", "y", value), False)
            for question in ("speakers", "gates", "helpers"):
                self.assertIs(familycheck.shows_family(ONE, "x", "y", question, value), False)
            self.assertIs(gatekinds.shows_kinds(ONE, "a", "x", "y", value), False)
            self.assertIs(bookcheck.shows_book(ONE, value), False)
            self.assertIs(bookcheck.shows_book_after(ONE, ("falls", "a"), value), False)


if __name__ == "__main__":
    unittest.main()
