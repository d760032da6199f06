"""With which speakers, looser gates or helpers a host hears another one."""

from meetbehind.checks import LETTERS
from meetbehind.course import Course, is_heard
from meetbehind.errors import InvalidQuestion, TooMany
from meetbehind.families import blockers, least_sets
from meetbehind.given import check_host, given_among
from meetbehind.kinds import Kind
from meetbehind.late import bound_in
from meetbehind.plans import plan_rows
from meetbehind.roads import kinds_of, roads_of
from meetbehind.routes import free_addresses
from meetbehind.worlds import World

SPEAKERS = "speakers"
GATES = "gates"
HELPERS = "helpers"


def set_up(world, question, items):
    """The world and the speakers of a set of items."""
    every = items_of(world, question)
    chosen = given_among(items, every)
    _check_many(world, question)
    return world_with(world, question, chosen)


def family(world, x, y, question):
    """The least sets with which y hears x, and their blockers."""
    check_family(world, x, y, question)
    least = _least(Inquiry(world, x, y, question))
    return (least, blockers(least))


def shown_family(world, x, y, question):
    """Plans for the least sets with which y hears x, and bounds for all items without those of each blocker."""
    check_family(world, x, y, question)
    inquiry = Inquiry(world, x, y, question)
    least = _least(inquiry)
    plans = [(part, inquiry.plan(part)) for part in least]
    bounds = [(part, inquiry.bound_without(part)) for part in blockers(least)]
    return (tuple(plans), tuple(bounds))


def _least(inquiry):
    """The least sets with which the second of two hosts hears the first."""
    return least_sets(inquiry.every, lambda items: inquiry.is_heard(items))


def items_of(world, question):
    """The items of a question, ascending; raises for any value that is none."""
    if question == SPEAKERS:
        return world.hosts
    if question == GATES:
        return world.gates
    if question == HELPERS:
        return ("",) + world.gates
    raise InvalidQuestion(question)


def _check_many(world, question):
    """Raises if there is no room for a helper in each realm."""
    if question == HELPERS and len(world.hosts) + len(items_of(world, question)) > World.MOST_HOSTS:
        raise TooMany(World.MOST_HOSTS)


def check_family(world, x, y, question):
    """Raises what is wrong with a question for x and y."""
    items_of(world, question)
    check_host(world, x)
    check_host(world, y)
    _check_many(world, question)


def world_with(world, question, items):
    """The world and the speakers of an ascending tuple of items, as set_up tells them."""
    if question == SPEAKERS:
        return (world, items)
    if question == GATES:
        loosest = Kind("one", "any", turns=True)
        strictest = Kind("both", "both")
        return (world.with_kinds({gate: loosest if gate in items else strictest for gate in world.gates}), None)
    return (_with_helpers(world, items), None)


def setting(world, roads, question, items):
    """The world, its packets and the hosts that speak, of an ascending tuple of items.

    roads are the packets of the world that is given; of what does not depend on kinds nothing is worked out again.
    """
    other, speakers = world_with(world, question, items)
    if question == SPEAKERS:
        return (other, roads, speakers)
    if question == GATES:
        return (other, roads.with_kinds(kinds_of(other)), other.hosts)
    return (other, roads_of(other), other.hosts)


def _with_helpers(world, realms):
    """The world with a host more in each of these realms."""
    letters = [letter for letter in LETTERS if letter not in world]
    # each helper takes the first letter and the first address that are left
    helpers = [("host", letter, realm, address)
               for realm, letter, address in zip(realms, letters, free_addresses(world))]
    parts = list(world.parts) + helpers
    return World(*parts)


class Inquiry:
    """Whether y hears x with sets of items of a question, each an ascending tuple, asked again and again.

    every is the tuple of all items. What was worked out for a set is kept as long as the inquiry.
    """

    def __init__(self, world, x, y, question):
        self.every = items_of(world, question)
        self._world = world
        self._goal = (x, y)
        self._question = question
        self._courses = {}
        widest = _with_helpers(world, self.every) if question == HELPERS else world
        self._roads = roads_of(widest)
        # the helper of each realm in the world that has all of them
        self._helpers = {part[2]: part[1] for part in widest.parts[len(world.parts):]}

    def is_heard(self, items):
        """Whether y hears x with these items."""
        if self._question == SPEAKERS and self._goal[0] not in items:
            # a host that does not speak is heard by nobody
            return False
        if self._question == HELPERS:
            # a helper that keeps silent changes as little as one that is not there: no other station has its address
            helpers = [self._helpers[realm] for realm in items]
            return is_heard(self._roads, tuple(sorted(list(self._world.hosts) + helpers)), *self._goal)
        return self._course(items).first_row(*self._goal) is not None

    def plan(self, items):
        """A plan in which y hears x with these items, with which it does."""
        course = self._course(items)
        return plan_rows(course, [course.first_row(*self._goal)[:3]])

    def bound_without(self, part):
        """The bound which shows that y never hears x with the items that are not in a set, with which it does not."""
        rest = tuple([item for item in self.every if item not in part])
        return bound_in(self._course(rest), *self._goal)

    def _course(self, items):
        """The rounds with these items, done until y hears x."""
        if items not in self._courses:
            self._courses[items] = self._new_course(items)
        return self._courses[items]

    def _new_course(self, items):
        """As _course tells it, worked out anew."""
        _, roads, speakers = setting(self._world, self._roads, self._question, items)
        return Course(roads, speakers, goal=self._goal)
