"""Answers come in good time, in worlds with six gates, three within one another, and eight hosts."""

import time
import unittest

from meetbehind.agents import Agent
from meetbehind.beats import shows_beat, slowest
from meetbehind.bookcheck import shows_book, shows_book_after
from meetbehind.books import book, first_in
from meetbehind.familycheck import shows_family
from meetbehind.gatekinds import kinds_for, shown_kinds, shows_kinds
from meetbehind.kinds import Kind
from meetbehind.late import late, reasons
from meetbehind.latecheck import shows_late
from meetbehind.leftovers import event_in, remaining
from meetbehind.looser import grown, joined, looser, renamed
from meetbehind.movenets import MoveNet
from meetbehind.moves import back, book_after, heard_again
from meetbehind.plancheck import shows_plan
from meetbehind.plans import reach
from meetbehind.plantexts import show_bound, show_rows
from meetbehind.questions import family, set_up, shown_family
from meetbehind.reader import read_bound, read_rows
from meetbehind.relays import groups, relays
from meetbehind.repairs import opened, repairs
from meetbehind.restnets import RestNet
from meetbehind.shell import Shell
from meetbehind.speakers import least_speakers, needed
from meetbehind.talks import even, meeting, shows_talk, talk
from meetbehind.worlds import World
from tests.samples import BIG, SIX

# each gate lends much and turns, so that very many names are told
WIDE = World(("gate", "a", "", 10, Kind("both", "any", turns=True)), ("gate", "b", "a", 11, Kind("far", "any", turns=True)),
             ("gate", "c", "b", 12, Kind("both", "far", turns=True)), ("gate", "d", "", 13, Kind("far", "any", turns=True)),
             ("gate", "e", "", 14, Kind("far", "far", turns=True)), ("gate", "f", "", 15, Kind("both", "any", turns=True)),
             ("host", "s", "c", 40), ("host", "t", "f", 41), ("host", "u", "e", 42), ("host", "v", "d", 43),
             ("host", "w", "e", 44), ("host", "x", "", 45), ("host", "y", "b", 46), ("host", "z", "a", 47))
SECONDS = 5


class TimesTest(unittest.TestCase):

    def in_time(self, deed, *given, **named):
        begun = time.perf_counter()
        found = deed(*given, **named)
        self.assertLess(time.perf_counter() - begun, SECONDS, deed.__name__)
        return found

    def test_plans_bounds_and_books(self):
        for world in (SIX, BIG, WIDE):
            x, y = world.hosts[0], world.hosts[1]
            self.assertIs(self.in_time(shows_book, world, self.in_time(book, world)), True)
            self.assertEqual(self.in_time(first_in, book(world), x, x), 1)
            for x, y in ((x, y), (y, x), (x, world.hosts[-1])):
                bound = self.in_time(late, world, x, y)
                self.assertIs(self.in_time(shows_late, world, x, y, bound), True)
                word, rows = reach(world, x, y)
                if word == "never":
                    self.in_time(lambda: list(reasons(world, x, y)))
                else:
                    self.assertIs(self.in_time(shows_plan, world, x, y, rows), True)

    def test_leftovers(self):
        for world in (SIX, BIG, WIDE):
            host = world.hosts[0]
            realms = [realm for realm in world.gates if world.station(realm, world.address(host)) is None]
            for event in [("falls", gate) for gate in world.gates] + [("moves", host, realm) for realm in realms]:
                after = self.in_time(event_in, world, event)
                self.in_time(remaining, world, event)
                self.assertIn(self.in_time(shows_book_after, world, event, book(after)), (True, False))
                right = self.in_time(book_after, world, event)
                self.assertIs(self.in_time(shows_book_after, world, event, right), True)
                if event[0] == "falls":
                    self.in_time(back, world, event[1], host, world.hosts[1])
                else:
                    self.in_time(heard_again, world, *event[1:], host, world.hosts[1])

    def test_other_worlds(self):
        for world in (SIX, BIG, WIDE):
            self.in_time(looser, world, world)
            self.in_time(grown, world.without(world.hosts[0]), "new", world.gates[2])
            names = [part[1] for part in world.parts if [one[3] for one in world.parts].count(part[3]) == 1]
            self.in_time(renamed, world, {name: 60 + at for at, name in enumerate(names)})
        gates = [("gate", name, "abcde"[at - 1] if at % 3 else "", 20 + at, Kind("one", "any")) for at, name in enumerate("abcdef")]
        hosts = [("host", name, "c" if at % 2 else "f", 40 + at) for at, name in enumerate("stuvwxyz")]
        world = World(*gates, *hosts)
        for gate in "bcef":
            self.in_time(joined, world, gate)
        for x, y in (("s", "t"), ("t", "s")):
            self.in_time(lambda: read_bound(show_bound(late(world, x, y))))
            self.in_time(lambda: read_rows(show_rows(tuple(row[:3] for row in book(world)[1]))))

    def test_texts_of_twenty_thousand_characters(self):
        for text in ("1 x a(b(c(10|1?)))\n" * 1050, "1" * 20000, "1 x " + "a(" * 9998, " " * 20000, "\n" * 20000):
            for read in (read_rows, read_bound):
                self.in_time(lambda: self.assertRaises(ValueError, read, text))
            self.in_time(lambda: self.assertRaises(ValueError, Shell().say, text))

    def test_each_line_of_a_shell(self):
        for world in (SIX, BIG, WIDE):
            shell = Shell()
            self.in_time(shell.say_all, *str(world).split("\n"))
            x, y, gate = world.hosts[0], world.hosts[1], world.gates[1]
            helper = [name for name in world.hosts if world.realm(name) == "" and name not in (x, y)][0]
            realm = [one for one in world.gates if world.station(one, world.address(x)) is None][0]
            for line in ("world", f"send {x} 1:1", "wait 5", f"fall {gate}", f"entries {gate}", f"first {x} {y}", f"plan {x} {y}",
                         f"late {x} {y}", f"talk {x} {y}", f"even {x} {y}", f"speakers {x} {y}", f"relays {x} {y}",
                         f"repairs {x} {y}", f"beat {x} {y}", f"back {gate} {x} {y}", f"again {x} {realm} {x} {y}",
                         "meeting " + " ".join(world.hosts), f"family speakers {x} {y}", f"family gates {x} {y}",
                         f"agent {x} {y} {helper}", f"move {x} {realm}", "undo 1", f"drop {x}", f"host {x} {gate} 77",
                         f"kind {gate} one/any turns rests 5", f"drop {y}"):
                self.in_time(shell.say, line)

    def test_talks(self):
        for world in (SIX, BIG, WIDE):
            x, y = world.hosts[0], world.hosts[1]
            self.assertIs(self.in_time(shows_talk, world, x, y, self.in_time(talk, world, x, y)), True)
            self.in_time(even, world, x, y)
            self.in_time(meeting, world, world.hosts)
            helper = [name for name in world.hosts if world.realm(name) == "" and name not in (x, y)][0]
            self.in_time(lambda: list(Agent(world, x, y, helper).run()))

    def test_families(self):
        for world in (SIX, BIG, WIDE):
            x, y = world.hosts[0], world.hosts[1]
            self.in_time(least_speakers, world, x, y)
            if self.in_time(least_speakers, world, x, x):
                self.in_time(needed, world, x, x)
            for question in ("speakers", "gates"):
                self.in_time(family, world, x, y, question)
                thing = self.in_time(shown_family, world, x, y, question)
                self.assertIs(self.in_time(shows_family, world, x, y, question, thing), True)
                self.in_time(set_up, world, question, ())
            fewer = World(*[part for part in world.parts if part[0] == "gate"], ("host", "x", world.gates[2], 90))
            self.in_time(family, fewer, "x", "x", "helpers")
            thing = self.in_time(shown_family, fewer, "x", "x", "helpers")
            self.assertIs(self.in_time(shows_family, fewer, "x", "x", "helpers", thing), True)

    def test_relays_repairs_kinds_and_beats(self):
        for world in (SIX, BIG, WIDE):
            x, y = world.hosts[0], world.hosts[1]
            self.in_time(groups, world)
            self.in_time(opened, world, world.gates)
            self.in_time(relays, world, x, y)
            strict = World(*[part[:4] + (Kind("both", "both", rests=9 + at),) if part[0] == "gate" else part
                             for at, part in enumerate(world.parts)])
            for one in (world, strict):
                for ends in ((x, y), (y, x), (x, world.hosts[-1])):
                    self.in_time(repairs, one, *ends)
                    self.assertIs(self.in_time(shows_beat, one, *ends, self.in_time(slowest, one, *ends)), True)
                for gate in world.gates:
                    self.in_time(kinds_for, one, gate, x, y)
                    thing = self.in_time(shown_kinds, one, gate, x, y)
                    self.assertIs(self.in_time(shows_kinds, one, gate, x, y, thing), True)

    def test_nets_with_time(self):
        for world in (SIX, BIG, WIDE):
            resting = World(*[part[:4] + (part[4] & Kind("one", "any", turns=True, rests=50),) if part[0] == "gate" else part
                              for part in world.parts])
            self.in_time(self.many_packets, RestNet(resting))
            self.in_time(self.many_packets, MoveNet(resting))

    def many_packets(self, net):
        """Sends packets, waits, lets gates fall and moves hosts, where they do; takes all back."""
        for number in range(600):
            host = net.world.hosts[number * 5 % 8]
            net.send(host, (number * 7 % 60 + 1, number % 11))
            net.wait(1 + number % 13)
            if number % 50 == 7:
                net.fall(net.world.gates[number % 6])
                realm = net.world.gates[number % 5]
                if isinstance(net, MoveNet) and net.world.station(realm, net.world.address(host)) is None:
                    net.move(host, realm)
            net.entries(net.world.gates[number % 6])
        net.twin().undo(300)
        net.undo(600)


if __name__ == "__main__":
    unittest.main()
