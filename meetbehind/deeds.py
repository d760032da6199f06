"""What the lines of a shell do to its world, and to its network."""

DONE = "ok"


def _gate(world, name, realm, address, kind):
    return world.with_part(("gate", name, realm, address, kind))


def _host(world, name, realm, address):
    return world.with_part(("host", name, realm, address))


def _kind(world, gate, kind):
    return world.with_kind(gate, kind)


def _drop(world, name):
    return world.without(name)


CHANGES = {"gate": _gate, "host": _host, "kind": _kind, "drop": _drop}


def is_change(word):
    """Whether a line with this first word changes the world, so that the network is begun anew."""
    return word in CHANGES


def changed_by(world, word, values):
    """The world that a line makes of a world; values are what the words behind the first one write."""
    change = CHANGES[word]
    return change(world, *values)


def _endpoint_text(endpoint):
    return f"{endpoint[0]}:{endpoint[1]}"


def _send(net, host, target):
    word, what, place = net.send(host, target)
    if word == "heard":
        return f"heard {what} {_endpoint_text(place)}"
    # a packet that came nowhere was lost at no place
    return f"lost {what} {place}" if place else f"lost {what}"


def _wait(net, units):
    return str(net.wait(units))


def _fall(net, gate):
    net.fall(gate)
    return DONE


def _entries(net, gate):
    return " ".join([f"{_endpoint_text(inner)}>{port}" for inner, _, port, _ in net.entries(gate)]) or "-"


def _move(net, host, realm):
    net.move(host, realm)
    return DONE


def _undo(net, count):
    net.undo(count)
    return DONE


DEEDS = {"send": _send, "wait": _wait, "fall": _fall, "entries": _entries, "move": _move, "undo": _undo}


def is_deed(word):
    """Whether a line with this first word is about the network."""
    return word in DEEDS


def done_by(net, word, values):
    """The answer to a line about the network, which it may change; values are as for changed_by."""
    deed = DEEDS[word]
    return deed(net, *values)
