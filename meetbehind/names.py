"""Names, which stand for endpoints whose ports are not known in advance."""

from meetbehind.checks import is_address, LAST_ADDRESS, LETTERS, LONGEST_NAME
from meetbehind.errors import InvalidName, InvalidText, NoStation
from meetbehind.given import check_host, is_host
from meetbehind.naming import address_in, key_at, lent_chain, owner_of, plain_in, shown_names
from meetbehind.routes import gates_out, route
from meetbehind.words import DIGITS

MOST_LENT = 3


def is_name(world, thing):
    """Whether any value is a name of the world."""
    if not isinstance(thing, tuple) or len(thing) not in (2, 4):
        return False
    if len(thing) == 4:
        return thing[0] == "lent" and _is_lent(world, thing)
    if not is_address(thing[1]):
        return False
    if thing[0] == "own":
        return thing[1] in [world.address(host) for host in world.hosts]
    return thing[0] == "blind" and _is_gate_address(world, thing[1])


def _is_lent(world, thing):
    """Whether a tuple of four values is a lent name but for its first word."""
    _, gate, inner, key = thing
    return gate in world.gates and _is_inner(world, gate, inner) and _is_key(world, gate, key)


def _is_inner(world, gate, thing):
    """Whether any value can be the inner name of a name that the gate lends."""
    if not is_name(world, thing):
        return False
    if thing[0] == "own":
        return is_host(world, world.station(gate, thing[1]))
    return thing[0] == "lent" and world.realm(thing[1]) == gate


def _is_key(world, gate, thing):
    """Whether any value can be the key of a name that the gate lends."""
    lends = world.kind(gate).lends
    if lends == "one":
        return thing is None
    if lends == "far":
        return is_address(thing) and thing in [part[3] for part in world.parts]
    if is_address(thing):
        return _is_gate_address(world, thing)
    return is_name(world, thing) and plain_in(world, thing, ())


def _is_gate_address(world, address):
    return address in [world.address(gate) for gate in world.gates]


def check_name(world, name):
    """Raises InvalidName if any value is no name of the world."""
    if not is_name(world, name):
        raise InvalidName(name)


def address_of(world, name):
    """The address of the endpoint for which the name stands."""
    check_name(world, name)
    return address_in(world, name)


def is_plain(world, name):
    """Whether the name is plain."""
    check_name(world, name)
    return plain_in(world, name, ())


def owner(world, name):
    """The host from which the packets come that show a lent name; None for other names."""
    check_name(world, name)
    return owner_of(world, name)


def fold(world, gate, name):
    """The key of a packet to the name at the gate."""
    if gate not in world.gates:
        raise NoStation(gate)
    check_name(world, name)
    return key_at(world, gate, name, ())


def depth(world, name):
    """How many gates have lent the name."""
    check_name(world, name)
    return len(lent_chain(name))


def sources(world, host, name):
    """The names that a packet of the host to the name shows as its source, from the first on."""
    check_host(world, host)
    check_name(world, name)
    course = route(world, world.realm(host), address_in(world, name))
    return shown_names(world, gates_out(world, course), host, name, ())


def show_name(name):
    """The text of a name."""
    if name[0] == "own":
        return str(name[1])
    if name[0] == "blind":
        return f"{name[1]}?"
    _, gate, inner, key = name
    return f"{gate}({show_name(inner)}{_key_text(key)})"


def _key_text(key):
    """What stands behind the inner name in the text of a lent name."""
    if key is None:
        return ""
    return f"|{show_name(key)}" if isinstance(key, tuple) else f"|{key}?"


def read_name(text):
    """The name that a text writes."""
    name = name_of(text) if isinstance(text, str) else None
    if name is None:
        raise InvalidText(0, 0)
    return name


def name_of(text):
    """The name that a text writes, or None if it writes none."""
    number = _address_at(text, 0)
    if number is not None and text[number[1]:] == "?":
        return ("blind", number[0])
    found = _name_at(text, 0, MOST_LENT, True)
    return found[0] if found is not None and found[1] == len(text) else None


def _end_of_run(text, at, signs, most):
    """The place behind the signs, at most so many, that stand in the text from a place on."""
    end = at
    while end < len(text) and end < at + most and text[end] in signs:
        end += 1
    return end


def _address_at(text, at):
    """The address that begins at a place, and the place behind it, or None."""
    end = _end_of_run(text, at, DIGITS, len(str(LAST_ADDRESS)))
    if end == at or text[at] == "0":
        return None
    return (int(text[at:end]), end)


def _name_at(text, at, most, keyed):
    """The own or lent name that begins at a place, and the place behind it, or None.

    At most so many gates have lent it; keyed tells whether the keys in it may be names.
    """
    number = _address_at(text, at)
    if number is not None:
        return (("own", number[0]), number[1])
    end = _end_of_run(text, at, LETTERS, LONGEST_NAME)
    # the number of gates bounds how deep this function calls itself, whatever the text is
    if end == at or most == 0 or text[end:end + 1] != "(":
        return None
    inner = _name_at(text, end + 1, most - 1, keyed)
    key = None if inner is None else _key_behind(text, inner[1], keyed)
    if key is None or text[key[1]:key[1] + 1] != ")":
        return None
    return (("lent", text[at:end], inner[0], key[0]), key[1] + 1)


def _key_behind(text, at, keyed):
    """The key that stands at a place behind an inner name, and the place behind it, or None if it is none."""
    if text[at:at + 1] != "|":
        return (None, at)
    number = _address_at(text, at + 1)
    if number is not None and text[number[1]:number[1] + 1] == "?":
        return (number[0], number[1] + 1)
    return _name_at(text, at + 1, MOST_LENT, False) if keyed else None
