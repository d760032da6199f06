"""With which kinds of one gate a host hears another one."""

from meetbehind.course import is_heard
from meetbehind.errors import NoStation
from meetbehind.given import check_host
from meetbehind.kinds import Kind
from meetbehind.late import late
from meetbehind.latecheck import is_never_for
from meetbehind.plancheck import is_plan_for
from meetbehind.plans import reach
from meetbehind.roads import kinds_of, roads_of


def kinds_for(world, gate, x, y):
    """The least kinds of the gate with which y hears x, and the greatest with which it never does."""
    _check(world, gate, x, y)
    kinds = _all_kinds()
    roads = roads_of(world)
    others = kinds_of(world)
    heard = [kind for kind in kinds if is_heard(roads.with_kinds({**others, gate: kind}), world.hosts, x, y)]
    failing = [kind for kind in kinds if kind not in heard]
    # each kind is within itself
    least = [kind for kind in heard if len([other for other in heard if other.within(kind)]) == 1]
    greatest = [kind for kind in failing if len([other for other in failing if kind.within(other)]) == 1]
    return (tuple(sorted(least, key=str)), tuple(sorted(greatest, key=str)))


def shown_kinds(world, gate, x, y):
    """A plan for each of the least kinds, and a bound for each of the greatest with which y never hears x."""
    least, failing = kinds_for(world, gate, x, y)
    plans = [(kind, reach(world.with_kind(gate, kind), x, y)[1]) for kind in least]
    bounds = [(kind, late(world.with_kind(gate, kind), x, y)) for kind in failing]
    return (tuple(plans), tuple(bounds))


def shows_kinds(world, gate, x, y, thing):
    """Whether any value shows by plans and bounds with which kinds of the gate y hears x, and with which not."""
    _check(world, gate, x, y)
    if not isinstance(thing, tuple) or len(thing) != 2 or not all([_has_kinds(pairs) for pairs in thing]):
        return False
    plans, bounds = thing
    least = [kind for kind, _ in plans]
    failing = [kind for kind, _ in bounds]
    if not all([_is_told(kind, least, failing) for kind in _all_kinds()]):
        return False
    hosts = world.hosts
    enough = [(world.with_kind(gate, kind), rows) for kind, rows in plans]
    too_strict = [(world.with_kind(gate, kind), bound) for kind, bound in bounds]
    return (all([is_plan_for(other, roads_of(other), hosts, x, y, rows) for other, rows in enough])
            and all([is_never_for(other, roads_of(other), hosts, x, y, bound) for other, bound in too_strict]))


def _check(world, gate, x, y):
    """Raises NoStation for the first of these that is no gate, or no host."""
    if gate not in world.gates:
        raise NoStation(gate)
    check_host(world, x)
    check_host(world, y)


def _all_kinds():
    """All kinds that do not rest."""
    return [Kind(lends, lets, turns=turns) for lends in Kind.LENDS for lets in Kind.LETS for turns in (False, True)]


def _has_kinds(thing):
    """Whether any value is a tuple of pairs of a kind that does not rest and a value, no kind within another one."""
    if not isinstance(thing, tuple):
        return False
    apart = []
    for pair in thing:
        if not isinstance(pair, tuple) or len(pair) != 2 or not isinstance(pair[0], Kind) or pair[0].rests is not None:
            return False
        kind = pair[0]
        if any([kind.within(other) or other.within(kind) for other in apart]):
            return False
        apart.append(kind)
    return True


def _is_told(kind, least, failing):
    """Whether a kind has one of the least kinds within it, or is within one of the failing ones."""
    return any([one.within(kind) for one in least]) or any([kind.within(one) for one in failing])
