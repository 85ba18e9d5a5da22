"""Names of states, tuples of 0 and 1: what lies between two, and which goings on they part."""

from relayholds.picks import picks


def span(one, other):
    """All names that agree with both wherever they agree with one another, rising."""
    return picks([[bit] if bit == against else [0, 1] for bit, against in zip(one, other)])


def are_parted(names, one, other):
    """Whether at some place the names of one pair of states have one number, those of the other pair the other one."""
    s, t = one
    u, v = other
    return any([a == b and c == d and a != c
                for a, b, c, d in zip(names[s], names[t], names[u], names[v])])

