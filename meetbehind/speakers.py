"""Which hosts must speak so that a host hears another one."""

from meetbehind.course import Course
from meetbehind.errors import NotHeard
from meetbehind.given import check_host
from meetbehind.questions import family


def least_speakers(world, x, y):
    """All least sets of hosts with which y hears x."""
    return family(world, x, y, "speakers")[0]


def needed(world, x, y):
    """The hosts without which y never hears x."""
    check_host(world, x)
    check_host(world, y)
    if not _is_heard(world, x, y, world.hosts):
        raise NotHeard(y)
    return tuple([name for name in world.hosts if not _is_heard_without(world, x, y, name)])


def _is_heard_without(world, x, y, silent):
    """Whether y hears x if all hosts but one speak."""
    return _is_heard(world, x, y, tuple([host for host in world.hosts if host != silent]))


def _is_heard(world, x, y, speakers):
    """Whether y hears x if these hosts speak."""
    return Course(world, speakers, ()).first_row(x, y) is not None
