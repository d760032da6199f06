"""The answers of a shell to questions about its world."""

from meetbehind.agents import Agent
from meetbehind.beats import slowest
from meetbehind.closure import Closure
from meetbehind.late import late
from meetbehind.moves import back, heard_again
from meetbehind.names import show_name
from meetbehind.plans import reach
from meetbehind.plantexts import NEVER, show_bound, show_rows
from meetbehind.questions import family
from meetbehind.relays import relays
from meetbehind.repairs import repairs
from meetbehind.speakers import least_speakers
from meetbehind.talks import even, meeting, talk


def _round_text(number):
    return NEVER if number is None else str(number)


def _line_of(text):
    """A text of several lines in one."""
    return text.replace("\n", " / ")


def _sets_text(sets, without):
    """Sets, their items joined by commas; another text if there is none."""
    return " ".join([",".join([item or "-" for item in part]) or "()" for part in sets]) or without


def _world(world):
    return _line_of(str(world)) or "-"


def _first(world, x, y):
    return _round_text(Closure(world).first(x, y))


def _plan(world, x, y):
    word, rows = reach(world, x, y)
    return NEVER if word == "never" else _line_of(show_rows(rows))


def _late(world, x, y):
    return _line_of(show_bound(late(world, x, y)))


def _talk(world, x, y):
    found = talk(world, x, y)
    return " ".join(found[:2]) if found[0] == "one way" else found[0]


def _even(world, x, y):
    pair = even(world, x, y)
    return "no" if pair is None else " ".join([show_name(name) for name in pair])


def _speakers(world, x, y):
    return _sets_text(least_speakers(world, x, y), "-")


def _relays(world, x, y):
    return " ".join(relays(world, x, y)) or "-"


def _repairs(world, x, y):
    return _sets_text(repairs(world, x, y), "-")


def _beat(world, x, y):
    found = slowest(world, x, y)
    if found[0] == "never":
        return NEVER
    return "any" if found[1] is None else str(found[1])


def _back(world, gate, x, y):
    return _round_text(back(world, gate, x, y))


def _again(world, host, realm, x, y):
    return _round_text(heard_again(world, host, realm, x, y))


def _meeting(world, names):
    found = meeting(world, names)
    if found[0] == "not":
        return " ".join(found[:3])
    rounds = [row[0] for row in found[1]]
    return f"all {max(rounds, default=0)}"


def _family(world, question, x, y):
    return " | ".join([_sets_text(sets, "none") for sets in family(world, x, y, question)])


def _agent(world, x, y, helper):
    agent = Agent(world, x, y, helper)
    while not agent.done:
        agent.step()
    if agent.result is None:
        return "no"
    number, one, two = agent.result
    return f"round {number} {show_name(one)} {show_name(two)}"


ANSWERS = {
    "world": _world, "first": _first, "plan": _plan, "late": _late, "talk": _talk, "even": _even,
    "speakers": _speakers, "relays": _relays, "repairs": _repairs, "beat": _beat, "back": _back, "again": _again,
    "meeting": _meeting, "family": _family, "agent": _agent,
}


def answer_of(world, word, values):
    """The answer to a question, which is called by the first word of a line; values are what the others write."""
    answer = ANSWERS[word]
    return answer(world, *values)
