"""The lines of a shell ([29])."""

import itertools
import random
import unittest

from meetbehind.agents import Agent
from meetbehind.beats import slowest
from meetbehind.closure import Closure
from meetbehind.errors import (Clash, InvalidEvent, InvalidQuestion, InvalidText, InvalidTime, Needed, NoRealm, NoStation,
                               NothingToUndo, Taken, TooDeep, TooMany, UnknownCommand)
from meetbehind.kinds import Kind
from meetbehind.late import late
from meetbehind.leftovers import event_in
from meetbehind.movenets import MoveNet
from meetbehind.moves import back, heard_again
from meetbehind.names import show_name
from meetbehind.plans import reach
from meetbehind.plantexts import show_bound, show_rows
from meetbehind.questions import family
from meetbehind.reader import read_bound, read_rows
from meetbehind.relays import relays
from meetbehind.repairs import repairs
from meetbehind.shell import Shell
from meetbehind.speakers import least_speakers
from meetbehind.talks import even, meeting, talk
from meetbehind.worlds import World
from tests.model import random_world
from tests.samples import any_values, BIG, Checks, CHAIN, DEEP, DRIFT, INNER, ONE, SIX, STRICT, TALKERS
from tests.test_restnets import resting

WORLDS = (ONE, STRICT, INNER, CHAIN, DEEP, DRIFT, TALKERS, SIX)
LINES_OF_ONE = ("gate a - 5 both/any", "gate b - 7 both/far", "host x a 10", "host y b 10", "host p - 1")
# a line of each form that a shell of the world ONE takes
FORMS = ("gate c a 9 one/any", "host q b 11", "kind a one/any turns rests 30", "drop p", "world", "send x 1:1", "wait 5", "fall a",
         "entries a", "first x y", "plan x y", "late x y", "talk x y", "even x y", "speakers x y", "relays x y", "repairs x y",
         "beat x y", "back a x y", "move x -", "again x - x y", "meeting x y p", "family speakers x y", "agent x y p", "undo 1")


def shell_of(world):
    """A shell of this world, with an empty log."""
    shell = Shell()
    shell.say_all(*str(world).split("\n"))
    return shell


def state(shell):
    """The world, the log and the entries of a shell, as its answers tell them; how many packets there are."""
    words = shell.say("world").split(" / ")
    gates = [line.split(" ")[1] for line in words if line.startswith("gate")]
    return (words, [shell.say(f"entries {gate}") for gate in gates], packets_of(shell))


def packets_of(shell):
    """How many packets can be taken back; they are not, as a line behind that is refused."""
    for many in itertools.count():
        try:
            shell.say_all(f"undo {many + 1}", "first q q")
        except NothingToUndo:
            return many
        except NoStation:
            pass


def sets_text(sets, without="-"):
    texts = [",".join(item if item else "-" for item in part) if part else "()" for part in sets]
    return " ".join(texts) if texts else without


class FormsTest(Checks, unittest.TestCase):

    def test_the_example(self):
        self.assert_same(Shell().say_all(*LINES_OF_ONE, "first x y", "talk x y", "even x y", "send x 1:1", "entries a", "relays x y"),
                         ["ok", "ok", "ok", "ok", "ok", "3", "talk", "no", "heard p 5:2", "10:1>2", "p"])

    def test_a_line_of_each_form(self):
        answers = [shell_of(ONE).say_all("send y 1:1", line)[1] for line in FORMS]
        self.assert_same(answers, [
            "ok", "ok", "ok", "ok", "gate a - 5 both/any / gate b - 7 both/far / host x a 10 / host y b 10 / host p - 1",
            "heard p 5:2", "5", "ok", "-", "3", "1 x 1 / 1 y 5? / 2 y a(10|1) / 3 x b(10|5?)",
            "3 / 1 a(10|1) / 1 b(10|1) / 2 b(10|5?)", "talk", "no", "p,x,y", "p", "()", "any", "1", "ok", "never", "all 3",
            "p,x,y | p x y", "no", "ok"])

    def test_by_name(self):
        shell = Shell()
        self.assert_same(shell.say(line="world"), "-")

    def test_one_word_more_or_less(self):
        shell = shell_of(ONE)
        for line in FORMS:
            for wrong in (line + " x", line + " ", line.rpartition(" ")[0], line + " x x x x x"):
                if line.startswith(("gate", "kind", "meeting")) and wrong.startswith(("gate c a 9 ", "kind a ", "meeting x")):
                    continue
                self.assert_raises(UnknownCommand, {"command": wrong}, shell.say, wrong)
        self.assertEqual(shell.say("world").count("/ "), 4)

    def test_numbers_of_words_of_gate_kind_and_meeting(self):
        shell = shell_of(ONE)
        for wrong in ("gate", "gate c a 9", "gate c a 9 one/any turns rests 30 x", "kind", "kind a", "kind a one/any turns rests 30 x",
                      "meeting", "gate ", "kind b"):
            self.assert_raises(UnknownCommand, {"command": wrong}, shell.say, wrong)
        for line in ("gate c a 9 one/any", "gate d a 8 one/any turns", "gate e a 17 one/any rests 30",
                     "gate f a 6 one/any turns rests 30", "kind a far/far", "kind a far/far turns", "kind a far/far rests 2",
                     "kind a far/far turns rests 2", "kind a both/any", "kind b both/far"):
            self.assert_same(shell.say(line), "ok")
        self.assert_same(shell.say("meeting x"), "all 0")
        self.assert_same(shell.say("meeting x x"), "all 0")
        self.assert_same(shell.say("meeting x y y p x"), "all 3")

    def test_lines_that_are_none(self):
        shell = shell_of(ONE)
        for line in ("", " ", "  ", "\n", "World", "WORLD", "world ", " world", "world\n", "\nworld", "helo x", "first  x y",
                     "first x y ", " first x y", "first\tx y", "ok", "undo", "undo  1", "x" * 20000, "undo\n1", "say world",
                     "first x  y", "meeting", "agents x y p", "send x 1 1", "loosest a"):
            self.assert_raises(UnknownCommand, {"command": line}, shell.say, line)

    def test_values_that_are_no_strings(self):
        shell = shell_of(ONE)
        for value in any_values():
            self.assert_raises(UnknownCommand, {"command": value}, shell.say, value)
        self.assert_raises(UnknownCommand, {"command": ["world"]}, shell.say, ["world"])
        self.assert_raises(UnknownCommand, {"command": b"world"}, shell.say, b"world")

    def test_each_word_spoilt(self):
        wrong = {"name": ["", "X", "x1", "-", "abcdefghi", "x\n", "x,y", "1"], "realm": ["", "A", "--", "abcdefghi", "-\n"],
                 "address": ["", "0", "100", "05", "1.0", "x", "5\n", "9" * 5000], "number": ["", "00", "01", "-1", "1000001", "x", "5\n", "9" * 5000],
                 "endpoint": ["", "1", ":", "1:", ":1", "0:1", "100:1", "1:01", "1:1000001", "1:1:1", "1:x", "01:1", "1:-1", "1:1\n"],
                 "question": ["", "speaker", "Gates", "x", "gates\n"], "kind": ["", "one", "one/any\n", "any/one", "far/one", "one/any/far"]}
        forms = {"gate c a 9 one/any": ["name", "realm", "address", "kind"], "host q b 11": ["name", "realm", "address"],
                 "kind a one/any": ["name", "kind"], "drop p": ["name"], "send x 1:1": ["name", "endpoint"], "wait 5": ["number"],
                 "fall a": ["name"], "entries a": ["name"], "back a x y": ["name"] * 3, "move x -": ["name", "realm"],
                 "again x - x y": ["name", "realm", "name", "name"], "meeting x y p": ["name"] * 3,
                 "family speakers x y": ["question", "name", "name"], "agent x y p": ["name"] * 3, "undo 1": ["number"]}
        for word in ("first", "plan", "late", "talk", "even", "speakers", "relays", "repairs", "beat"):
            forms[word + " x y"] = ["name", "name"]
        self.assertEqual(len(forms), len(FORMS) - 1)
        shell = shell_of(ONE)
        shell.say("send y 1:1")
        before = state(shell)
        for line, kinds in forms.items():
            words = line.split(" ")
            for at, kind in enumerate(kinds):
                for spoilt in wrong[kind]:
                    # what stands behind it does not count
                    for rest in (words[at + 2:], [""] * len(words[at + 2:])):
                        one = " ".join(words[:at + 1] + [spoilt] + rest)
                        self.assert_raises(InvalidText, {"line": 0, "word": at + 1}, shell.say, one)
        self.assertEqual(state(shell), before)

    def test_words_of_kinds(self):
        shell = shell_of(ONE)
        for words, at in (("one", 0), ("one/any turn", 1), ("one/any rests", 2), ("one/any rests 1", 2), ("one/any rests 02", 2),
                          ("one/any rests 1000001", 2), ("one/any turns turns", 2), ("one/any turns rests", 3),
                          ("one/any turns rests x", 3), ("one/any rests 30 turns", 3), ("one/any rests 30 ", 3),
                          ("one/any turns x 30", 2), ("one/any  rests", 1), ("one/any ", 1), (" one/any", 0),
                          ("one/any turns rests ", 3), ("x x x x", 0), ("one/any rests 5 5", 3), ("one/any turns 5", 2)):
            self.assert_raises(InvalidText, {"line": 0, "word": 4 + at}, shell.say, "gate c a 9 " + words)
            self.assert_raises(InvalidText, {"line": 0, "word": 2 + at}, shell.say, "kind a " + words)
            # words before them come first
            self.assert_raises(InvalidText, {"line": 0, "word": 3}, shell.say, "gate c a x " + words)
            self.assert_raises(InvalidText, {"line": 0, "word": 1}, shell.say, "kind A " + words)
            # and all of them before what the functions raise
            self.assert_raises(InvalidText, {"line": 0, "word": 4 + at}, shell.say, "gate x q 9 " + words)
            self.assert_raises(InvalidText, {"line": 0, "word": 2 + at}, shell.say, "kind q " + words)

    def test_bounds_of_numbers(self):
        shell = shell_of(ONE)
        self.assert_same(shell.say("wait 1000000"), "1000000")
        self.assert_same(shell.say("send x 99:1000000"), "lost nowhere")
        self.assert_same(shell.say("send x 1:0"), "lost port p")
        self.assert_raises(InvalidTime, {"time": 0}, shell.say, "wait 0")
        self.assert_raises(NothingToUndo, {"count": 0}, shell.say, "undo 0")
        self.assert_raises(NothingToUndo, {"count": 3}, shell.say, "undo 3")
        self.assert_raises(NothingToUndo, {"count": 10 ** 6}, shell.say, "undo 1000000")
        self.assert_same(shell.say("undo 2"), "ok")


class WorldLinesTest(Checks, unittest.TestCase):

    def test_a_new_shell(self):
        shell = Shell()
        self.assert_same(shell.say("world"), "-")
        self.assert_raises(NoStation, {"name": "x"}, shell.say, "first x y")
        self.assert_raises(NothingToUndo, {"count": 1}, shell.say, "undo 1")
        self.assert_same(shell.say("wait 3"), "3")

    def test_the_text_of_the_world(self):
        for world in WORLDS + (BIG,):
            self.assert_same(shell_of(world).say("world"), str(world).replace("\n", " / "))

    def test_gates_and_hosts(self):
        shell = Shell()
        self.assert_same(shell.say_all("gate a - 5 far/both turns rests 7", "host x a 10", "gate b a 6 one/any"), ["ok", "ok", "ok"])
        self.assert_same(shell.say("world"), "gate a - 5 far/both turns rests 7 / host x a 10 / gate b a 6 one/any")
        for line, error, fields in (("gate c q 9 one/any", NoRealm, {"index": 3}), ("host c x 9", NoRealm, {"index": 3}),
                                    ("gate x a 9 one/any", Taken, {"index": 3}), ("host q a 6", Taken, {"index": 3}),
                                    ("host a a 9", Taken, {"index": 3})):
            self.assert_raises(error, fields, shell.say, line)
        shell.say_all("gate c b 6 one/any", "host y c 9")
        self.assert_raises(TooDeep, {"index": 5}, shell.say, "gate d c 5 one/any")
        shell.say_all("gate d b 5 one/any", "gate e b 7 one/any", "gate f b 8 one/any")
        self.assert_raises(TooMany, {"limit": 6}, shell.say, "gate g b 9 one/any")
        for number in range(6):
            shell.say(f"host h{'abcdef'[number]} - {number + 10}")
        self.assert_raises(TooMany, {"limit": 8}, shell.say, "host z - 90")

    def test_kinds(self):
        shell = shell_of(ONE)
        self.assert_same(shell.say("kind b both/both"), "ok")
        self.assert_same(shell.say("first x y"), "never")
        self.assert_same(shell.say("kind b one/any turns rests 1000000"), "ok")
        self.assertIn("gate b - 7 one/any turns rests 1000000", shell.say("world"))
        for name in ("x", "q"):
            self.assert_raises(NoStation, {"name": name}, shell.say, f"kind {name} one/any")

    def test_drop(self):
        shell = shell_of(ONE)
        self.assert_raises(Needed, {"name": "a"}, shell.say, "drop a")
        self.assert_raises(NoStation, {"name": "q"}, shell.say, "drop q")
        self.assert_same(shell.say_all("drop x", "drop a", "world"), ["ok", "ok", "gate b - 7 both/far / host y b 10 / host p - 1"])
        self.assert_same(shell.say_all("drop p", "drop y", "drop b", "world"), ["ok", "ok", "ok", "-"])

    def test_the_network_is_begun_anew(self):
        for line in ("gate c - 9 one/any", "host q - 9", "kind a both/any", "drop y"):
            shell = shell_of(ONE)
            shell.say_all("send x 1:1", "wait 7", "move p a")
            self.assert_same(shell.say(line), "ok")
            self.assert_raises(NothingToUndo, {"count": 1}, shell.say, "undo 1")
            self.assert_same(shell.say("entries a"), "-")
            self.assert_same(shell.say("wait 1"), "1")
            # ports are chosen from 2 on again, and the host stands where it moved to
            self.assert_same(shell.say_all("move p -", "send x 1:1"), ["ok", "heard p 5:2"])

    def test_a_refused_change_keeps_the_network(self):
        shell = shell_of(ONE)
        shell.say_all("send x 1:1", "wait 7")
        for line in ("gate c q 9 one/any", "host x - 9", "kind q one/any", "drop a", "kind a one", "drop Q", "gate c - 9", "nothing"):
            with self.assertRaises((ValueError, KeyError)):
                shell.say(line)
        self.assert_same(shell.say_all("entries a", "wait 1"), ["10:1>2", "8"])


class NetworkLinesTest(Checks, unittest.TestCase):

    def test_send(self):
        shell = shell_of(ONE)
        self.assert_same(shell.say_all("send x 10:1", "send x 10:2", "send x 99:1", "send x 5:2", "send x 7:2", "send p 7:2", "send x 1:1"),
                         ["heard x 10:1", "lost port x", "lost nowhere", "lost unturned a", "lost closed b", "lost closed b",
                          "heard p 5:4"])
        shell.say("send y 99:1")
        self.assert_same(shell.say("send p 7:2"), "lost barred b")
        self.assert_raises(NoStation, {"name": "q"}, shell.say, "send q 1:1")
        self.assert_raises(NoStation, {"name": "a"}, shell.say, "send a 1:1")

    def test_entries(self):
        shell = shell_of(ONE)
        shell.say_all("send x 2:1", "send x 1:1", "send x 1:1")
        self.assert_same(shell.say("entries a"), "10:1>2 10:1>3")
        self.assert_same(shell.say("entries b"), "-")
        for name in ("x", "q"):
            self.assert_raises(NoStation, {"name": name}, shell.say, f"entries {name}")
        deep = shell_of(DEEP)
        deep.say("send w 99:1")
        self.assert_same(deep.say_all("entries a", "entries b", "entries c"), ["6:2>2", "7:2>2", "10:1>2"])

    def test_wait_and_fall(self):
        shell = shell_of(ONE.with_kind("a", Kind("one", "any", rests=10)))
        self.assert_same(shell.say_all("send x 1:1", "send y 1:1", "wait 9", "entries a", "wait 1", "entries a", "entries b"),
                         ["heard p 5:2", "heard p 7:2", "9", "10:1>2", "10", "-", "10:1>2"])
        self.assert_same(shell.say_all("fall b", "entries b", "send p 7:2"), ["ok", "-", "lost closed b"])
        for name in ("x", "q"):
            self.assert_raises(NoStation, {"name": name}, shell.say, f"fall {name}")

    def test_move(self):
        shell = shell_of(DRIFT)
        self.assert_same(shell.say_all("send x 1:1", "move x -", "send p 5:2", "send p 10:1", "entries a"),
                         ["heard p 5:2", "ok", "lost gone a", "heard x 1:1", "10:1>2"])
        self.assert_same(shell.say("world"), "gate a - 5 one/any / gate b - 7 both/far / host y b 11 / host p - 1 / host x - 10")
        self.assert_same(shell.say("first x y"), str(Closure(event_in(DRIFT, ("moves", "x", ""))).first("x", "y")))
        for host, realm in (("q", ""), ("a", ""), ("x", "q"), ("x", "y"), ("q", "q")):
            self.assert_raises(InvalidEvent, {"event": ("moves", host, realm)}, shell.say, f"move {host} {realm or '-'}")
        self.assert_raises(Clash, {"number": 10}, shell.say, "move x -")
        self.assert_raises(Clash, {"number": 10}, shell_of(ONE).say, "move x b")

    def test_undo_over_waits_falls_and_moves(self):
        shell = shell_of(DRIFT)
        shell.say_all("wait 2", "send x 1:1")
        before = (shell.say("world"), shell.say("entries a"))
        shell.say_all("send x 1:1", "wait 5", "fall a", "move x -", "send x 1:1", "move y a", "wait 1")
        self.assert_same(shell.say("undo 1"), "ok")
        self.assertIn("host x - 10", shell.say("world"))
        self.assert_same(shell.say("wait 1"), "8")
        self.assert_same(shell.say("undo 1"), "ok")
        self.assertEqual((shell.say("world"), shell.say("entries a")), before)
        self.assert_same(shell.say("wait 1"), "3")
        self.assert_same(shell.say("undo 1"), "ok")
        self.assert_same(shell.say_all("wait 1", "entries a"), ["3", "-"])
        self.assert_raises(NothingToUndo, {"count": 1}, shell.say, "undo 1")
        # the port stays used
        self.assert_same(shell.say("send x 1:1"), "heard p 5:3")

    def test_a_move_before_the_first_packet_stays(self):
        shell = shell_of(DRIFT)
        shell.say_all("move x -", "send x 1:1", "move x b", "undo 1")
        self.assertIn("host x - 10", shell.say("world"))

    def test_random_lines_against_a_net(self):
        for seed in range(60):
            rng = random.Random(seed)
            world = resting(random_world(rng, gates=4, hosts=4), rng)
            shell, net = shell_of(world), MoveNet(world)
            for _ in range(30):
                deed = rng.random()
                if deed < 0.15 and net.log:
                    count = rng.randint(1, min(3, len(net.log)))
                    net.undo(count)
                    self.assert_same(shell.say(f"undo {count}"), "ok")
                elif deed < 0.3:
                    units = rng.randint(1, 4)
                    self.assert_same(shell.say(f"wait {units}"), str(net.wait(units)))
                elif deed < 0.4 and world.gates:
                    gate = rng.choice(world.gates)
                    net.fall(gate)
                    self.assert_same(shell.say(f"fall {gate}"), "ok")
                elif deed < 0.5:
                    host, realm = rng.choice(world.hosts), rng.choice(("",) + world.gates)
                    if net.world.station(realm, world.address(host)) is None:
                        net.move(host, realm)
                        self.assert_same(shell.say(f"move {host} {realm or '-'}"), "ok")
                else:
                    known = [(address, port) for address in range(1, 10) for port in (0, 1, 2)] + list(net.told) * 4
                    host, (address, port) = rng.choice(world.hosts), rng.choice(known)
                    word, what, place = net.send(host, (address, port))
                    expected = f"heard {what} {place[0]}:{place[1]}" if word == "heard" else f"lost {what} {place}".rstrip(" ")
                    self.assert_same(shell.say(f"send {host} {address}:{port}"), expected)
                self.assert_same(shell.say("world"), str(net.world).replace("\n", " / "))
                for gate in world.gates:
                    rows = [f"{row[0][0]}:{row[0][1]}>{row[2]}" for row in net.entries(gate)]
                    self.assert_same(shell.say(f"entries {gate}"), " ".join(rows) or "-")


class QuestionsTest(Checks, unittest.TestCase):

    def expected(self, world, x, y):
        """The answers to all questions for two hosts, as the functions tell them."""
        first = Closure(world).first(x, y)
        word, rows = reach(world, x, y)
        found = {f"first {x} {y}": "never" if first is None else str(first),
                 f"plan {x} {y}": "never" if word == "never" else show_rows(rows).replace("\n", " / "),
                 f"late {x} {y}": show_bound(late(world, x, y)).replace("\n", " / "),
                 f"speakers {x} {y}": sets_text(least_speakers(world, x, y)),
                 f"relays {x} {y}": " ".join(relays(world, x, y)) or "-",
                 f"repairs {x} {y}": sets_text(repairs(world, x, y))}
        beat = slowest(world, x, y)
        found[f"beat {x} {y}"] = "never" if beat[0] == "never" else "any" if beat[1] is None else str(beat[1])
        for gate in world.gates:
            number = back(world, gate, x, y)
            found[f"back {gate} {x} {y}"] = "never" if number is None else str(number)
        for host in world.hosts:
            for realm in ("",) + world.gates:
                if world.station(realm, world.address(host)) is None:
                    number = heard_again(world, host, realm, x, y)
                    found[f"again {host} {realm or '-'} {x} {y}"] = "never" if number is None else str(number)
        shown = meeting(world, [x, y])
        if shown[0] == "not":
            found[f"meeting {x} {y}"] = f"not {shown[1]} {shown[2]}"
        else:
            found[f"meeting {x} {y}"] = f"all {shown[1][-1][0] if shown[1] else 0}"
        for question in ("speakers", "gates", "helpers"):
            if question != "helpers" or len(world.hosts) + len(world.gates) < 8:
                least, blocking = family(world, x, y, question)
                found[f"family {question} {x} {y}"] = sets_text(least, "none") + " | " + sets_text(blocking, "none")
        if x != y:
            found.update(self.expected_talks(world, x, y))
        return found

    def expected_talks(self, world, x, y):
        pair = even(world, x, y)
        shown = talk(world, x, y)
        found = {f"even {x} {y}": "no" if pair is None else f"{show_name(pair[0])} {show_name(pair[1])}",
                 f"talk {x} {y}": f"one way {shown[1]}" if shown[0] == "one way" else shown[0]}
        for helper in world.hosts:
            if helper not in (x, y) and world.realm(helper) == "":
                agent = Agent(world, x, y, helper)
                list(agent.run())
                found[f"agent {x} {y} {helper}"] = "no" if agent.result is None else " ".join(
                    ["round", str(agent.result[0]), show_name(agent.result[1]), show_name(agent.result[2])])
        return found

    def check(self, world, x, y):
        shell = shell_of(world)
        expected = self.expected(world, x, y)
        for line, answer in expected.items():
            self.assert_same(shell.say(line), answer)
        # questions change nothing
        self.assert_same(shell.say("world"), str(world).replace("\n", " / "))
        return expected

    def test_worlds_of_the_document(self):
        for world in (ONE, STRICT, DRIFT, TALKERS, CHAIN):
            for x in world.hosts:
                for y in world.hosts:
                    self.check(world, x, y)
        for world, x, y in ((INNER, "x", "y"), (DEEP, "w", "t"), (DEEP, "t", "w"), (SIX, "h", "m"), (BIG, "s", "z")):
            self.check(world, x, y)

    def test_random_worlds(self):
        answers = set()
        for seed in range(30):
            rng = random.Random(seed)
            world = resting(random_world(rng, gates=4, hosts=4, last=12), rng)
            for _ in range(2):
                found = self.check(world, rng.choice(world.hosts), rng.choice(world.hosts))
                answers.update((line.split(" ")[0], answer) for line, answer in found.items())
        for word, answer in (("first", "never"), ("plan", "never"), ("talk", "talk"), ("talk", "never"), ("even", "no"),
                             ("speakers", "-"), ("relays", "-"), ("repairs", "()"), ("beat", "any"), ("beat", "never"), ("beat", "1"),
                             ("back", "never"), ("again", "1"), ("meeting", "all 0"), ("agent", "no"), ("family", "none | ()"),
                             ("family", "() | none"), ("family", "- | -")):
            self.assertIn((word, answer), answers)

    def test_texts_can_be_read(self):
        shell = shell_of(ONE)
        self.assert_same(read_rows(shell.say("plan x y").replace(" / ", "\n")), reach(ONE, "x", "y")[1])
        self.assert_same(read_bound(shell.say("late x y").replace(" / ", "\n")), late(ONE, "x", "y"))

    def test_some_answers(self):
        strict = shell_of(STRICT)
        self.assert_same(strict.say_all("first x y", "plan x y", "late x y", "talk x y", "talk y x", "even x y", "speakers x y", "repairs x y",
                                        "beat x y", "meeting p x y", "family gates x y", "family helpers x y", "first y x"),
                         ["never", "never", "never / 1 a(10|1) / 1 b(10|1) / 2 b(10|5?)", "one way x", "one way x", "no", "-", "a b",
                          "never", "not x y", "a b | a,b", "none | ()", "2"])
        alone = shell_of(STRICT.without("p"))
        self.assert_same(alone.say_all("late x y", "talk x y", "relays x y", "repairs x y", "family gates x y", "family helpers x y"),
                         ["never", "never", "-", "-", "none | ()", "none | ()"])
        self.assert_same(shell_of(ONE.without("p")).say("family helpers x y"), "- | -")
        inner = shell_of(World(*[part for part in INNER.parts if part[1] != "h"]))
        self.assert_same(inner.say("family helpers x y"), "c | c")
        self.assert_same(shell_of(TALKERS).say_all("agent x y p", "even x y"), ["round 3 b(10) a(10|b(10))", "b(10) a(10|b(10))"])
        rest = shell_of(ONE.with_kind("a", Kind("both", "any", rests=30)).with_kind("b", Kind("both", "far", rests=20)))
        self.assert_same(rest.say_all("beat y x", "beat x y", "beat x p", "back a x y", "back a y x", "back b x y"),
                         ["29", "19", "any", "1", "2", "2"])
        self.assert_same(shell_of(DRIFT).say_all("again x - x y", "again y a x y"), ["2", "1"])
        self.assert_same(shell_of(STRICT).say_all("again p b x y", "back a x y"), ["never", "never"])

    def test_what_the_functions_raise(self):
        shell = shell_of(ONE)
        for word in ("first", "plan", "late", "talk", "even", "speakers", "relays", "repairs", "beat", "meeting", "family gates"):
            self.assert_raises(NoStation, {"name": "a"}, shell.say, f"{word} a x")
            self.assert_raises(NoStation, {"name": "q"}, shell.say, f"{word} x q")
        for word in ("talk", "even"):
            self.assert_raises(NoStation, {"name": "x"}, shell.say, f"{word} x x")
        for line, name in (("back x x y", "x"), ("back q r s", "q"), ("back a r s", "r"), ("back a x s", "s"), ("again a - x y", "a"),
                           ("again q r s t", "q"), ("again x q s t", "s"), ("again x q y t", "t"), ("agent q r s", "q"),
                           ("agent x q r", "q"), ("agent x x p", "x"), ("agent x y y", "y"), ("agent x y q", "q"),
                           ("agent x p y", "y"), ("meeting q p r", "q"), ("meeting x q", "q"), ("meeting z q x", "q")):
            self.assert_raises(NoStation, {"name": name}, shell.say, line)
        self.assert_raises(InvalidEvent, {"event": ("moves", "x", "q")}, shell.say, "again x q x y")
        self.assert_raises(Clash, {"number": 10}, shell.say, "again x a x y")
        self.assert_raises(Clash, {"number": 1}, shell.say, "again p - x y")
        self.assert_raises(TooMany, {"limit": 8}, shell_of(SIX).say, "family helpers h i")
        self.assert_raises(NoStation, {"name": "q"}, shell_of(SIX).say, "family helpers h q")
        # another word is wrong by its form, so it is no InvalidQuestion
        with self.assertRaises(InvalidText):
            shell.say("family talks q r")
        self.assertFalse(issubclass(InvalidText, InvalidQuestion))


class SayAllTest(Checks, unittest.TestCase):

    def test_without_lines(self):
        shell = shell_of(ONE)
        self.assert_same(Shell().say_all(), [])
        self.assert_same(shell.say_all(), [])
        self.assert_same(shell.say("world"), str(ONE).replace("\n", " / "))

    def test_answers_in_their_order(self):
        shell = shell_of(ONE)
        self.assert_same(shell.say_all("wait 1", "wait 1", "send x 1:1", "undo 1", "wait 1"), ["1", "2", "heard p 5:2", "ok", "3"])
        self.assert_same(shell.say("wait 1"), "4")

    def test_a_line_in_the_middle_that_is_refused(self):
        for line, error in (("nothing", UnknownCommand), ("first X y", InvalidText), ("first zz y", NoStation), (None, UnknownCommand),
                            ("undo 9", NothingToUndo), ("host x a 10", Taken), ("drop a", Needed), ("move x q", InvalidEvent)):
            shell = shell_of(ONE)
            shell.say_all("wait 3", "send x 1:1", "wait 2", "move p a")
            before = state(shell)
            for lines in (("send x 1:1", line, "wait 1"), ("undo 1", "send y 1:1", "wait 5", line), (line,),
                          ("fall a", "move p -", line, "world"), ("host q - 33", "kind a one/any", "send q 1:1", line),
                          ("drop p", line)):
                with self.assertRaises(error):
                    shell.say_all(*lines)
                self.assertEqual(state(shell), before)
            # the ports are as before, too, and so is time
            self.assert_same(shell.say_all("wait 1", "send x 1:1", "send x 3:1", "entries a"),
                             ["6", "heard p 10:1", "lost nowhere", "10:1>2 10:1>3"])

    def test_the_error_goes_on_as_it_is(self):
        shell = shell_of(ONE)
        self.assert_raises(InvalidText, {"line": 0, "word": 2}, shell.say_all, "world", "first x Y", "nothing")
        self.assert_raises(Taken, {"index": 6}, shell.say_all, "host q - 33", "host r - 33")

    def test_two_shells(self):
        one, two = shell_of(ONE), shell_of(ONE)
        one.say_all("send x 1:1", "drop p")
        self.assert_same(two.say("world"), str(ONE).replace("\n", " / "))
        self.assert_same(two.say("entries a"), "-")

    def test_twice_behind_a_refusal(self):
        shell = Shell()
        self.assert_raises(NoRealm, {"index": 0}, shell.say_all, "host x a 1")
        self.assert_same(shell.say_all("gate a - 1 one/any", "host x a 1", "world"), ["ok", "ok", "gate a - 1 one/any / host x a 1"])


if __name__ == "__main__":
    unittest.main()
