"""Names of states, tuples of 0 and 1: what lies between two, and which goings on they part."""

from relayholds.errors import NoNames
from relayholds.picks import picks

MOST_PLACES = 4


def span(one, other):
    """All names that agree with both wherever they agree with one another, rising."""
    return picks([[bit] if bit == against else [0, 1] for bit, against in zip(one, other)])


def are_parted(names, one, other):
    """Whether at some place the names of one pair of states have one number, those of the other pair the other one."""
    s, t = one
    u, v = other
    return any([a == b and c == d and a != c
                for a, b, c, d in zip(names[s], names[t], names[u], names[v])])


def check_names(table, names):
    """Refuse what is no names of the table's states."""
    if len(names) != len(table.states()) or not are_names(names):
        raise NoNames("each state has a name of its own, all of one length, of 0 and 1")


def are_names(names):
    """Of one tuple at least, whether all are of one right length, of 0 and 1, no two alike."""
    places = len(names[0])
    if not 1 <= places <= MOST_PLACES or not all([len(name) == places for name in names]):
        return False
    return all([bit in (0, 1) for name in names for bit in name]) and len(set(names)) == len(names)
