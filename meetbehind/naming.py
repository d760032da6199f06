"""What names tell, asked of names that are known to be right.

forgets is everywhere the gates that forget their entries between rounds: a name in which one of them occurs is not
plain.
"""


def address_in(world, name):
    """The address of the endpoint for which a name stands."""
    return world.address(name[1]) if name[0] == "lent" else name[1]


def plain_in(world, name, forgets):
    """Whether a name is plain."""
    while name[0] == "lent":
        if name[1] in forgets or world.kind(name[1]).lends == "both":
            return False
        name = name[2]
    return name[0] == "own"


def key_at(world, gate, name, forgets):
    """The key of a packet to a name at a gate."""
    return key_by(world.kind(gate).lends, name, address_in(world, name), plain_in(world, name, forgets))


def key_by(lends, name, address, is_name_plain):
    """The key of a packet to a name with this address at a gate that lends by this word."""
    if lends == "one":
        return None
    return name if lends == "both" and is_name_plain else address


def shown_names(world, gates, host, name, forgets):
    """The names that a packet of the host to a name shows, one behind the other, when it goes out through gates."""
    shown = [("own", world.address(host))]
    for gate in gates:
        shown.append(("lent", gate, shown[-1], key_at(world, gate, name, forgets)))
    return tuple(shown)


def lent_chain(name):
    """A lent name and the lent names within it, from outside inwards; nothing for other names."""
    chain = []
    while name[0] == "lent":
        chain.append(name)
        name = name[2]
    return chain


def can_be_told(name, forgets):
    """Whether a name is lent, and by no gate that forgets."""
    gates = [lent[1] for lent in lent_chain(name)]
    return gates != [] and not any([gate in forgets for gate in gates])


def owner_of(world, name):
    """The host from which the packets come that show a lent name; None for other names."""
    chain = lent_chain(name)
    if not chain:
        return None
    return world.station(chain[-1][1], chain[-1][2][1])


def known_at_first(world):
    """The own and blind names of a world, which are known before the first round."""
    names = {("own" if part[0] == "host" else "blind", part[3]): True for part in world.parts}
    return list(names)
