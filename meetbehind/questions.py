"""With which speakers, looser gates or helpers a host hears another one."""

from meetbehind.checks import LETTERS
from meetbehind.course import Course
from meetbehind.errors import InvalidQuestion, TooMany
from meetbehind.families import blockers, least_sets
from meetbehind.given import check_host, given_among
from meetbehind.kinds import Kind
from meetbehind.late import late
from meetbehind.plans import reach
from meetbehind.routes import free_addresses
from meetbehind.worlds import World

SPEAKERS = "speakers"
GATES = "gates"
HELPERS = "helpers"


def set_up(world, question, items):
    """The world and the speakers of a set of items."""
    every = items_of(world, question)
    chosen = given_among(items, every)
    _check_many(world, question)
    return _set_up(world, question, chosen)


def family(world, x, y, question):
    """The least sets with which y hears x, and their blockers."""
    check_family(world, x, y, question)
    least = _least(world, x, y, question)
    return (least, blockers(least))


def shown_family(world, x, y, question):
    """Plans for the least sets with which y hears x, and bounds for all items without those of each blocker."""
    check_family(world, x, y, question)
    least = _least(world, x, y, question)
    plans = []
    for part in least:
        other, speakers = _set_up(world, question, part)
        plans.append((part, reach(other, x, y, speakers=speakers)[1]))
    bounds = []
    for part in blockers(least):
        rest = tuple([item for item in items_of(world, question) if item not in part])
        other, speakers = _set_up(world, question, rest)
        bounds.append((part, late(other, x, y, speakers=speakers)))
    return (tuple(plans), tuple(bounds))


def items_of(world, question):
    """The items of a question, ascending; raises for any value that is none."""
    if question == SPEAKERS:
        return world.hosts
    if question == GATES:
        return world.gates
    if question == HELPERS:
        return ("",) + world.gates
    raise InvalidQuestion(question)


def _check_many(world, question):
    """Raises if there is no room for a helper in each realm."""
    if question == HELPERS and len(world.hosts) + len(items_of(world, question)) > World.MOST_HOSTS:
        raise TooMany(World.MOST_HOSTS)


def check_family(world, x, y, question):
    """Raises what is wrong with a question for x and y."""
    items_of(world, question)
    check_host(world, x)
    check_host(world, y)
    _check_many(world, question)


def _set_up(world, question, items):
    """As set_up tells it, for an ascending tuple of items."""
    if question == SPEAKERS:
        return (world, items)
    if question == GATES:
        return (_loosened(world, items), None)
    for realm in items:
        world = _with_helper(world, realm)
    return (world, None)


def _loosened(world, gates):
    """The world in which these gates are as loose, and the others as strict, as can be."""
    loosest = Kind("one", "any", turns=True)
    strictest = Kind("both", "both")
    parts = []
    for part in world.parts:
        kind = loosest if part[1] in gates else strictest
        parts.append(part[:4] + (kind,) if part[0] == "gate" else part)
    return World(*parts)


def _with_helper(world, realm):
    """The world with a host more in a realm."""
    letters = [letter for letter in LETTERS if letter not in world]
    addresses = list(free_addresses(world))
    return world.with_part(("host", letters[0], realm, addresses[0]))


def _least(world, x, y, question):
    """The least sets with which y hears x."""
    return least_sets(items_of(world, question), lambda items: _is_heard(world, x, y, question, items))


def _is_heard(world, x, y, question, items):
    """Whether y hears x with a set of items."""
    other, speakers = _set_up(world, question, items)
    course = Course(other, other.hosts if speakers is None else speakers, ())
    return course.first_row(x, y) is not None
