"""Pairs of goings on that names must part, and names that part them for each table."""

from relayholds.tables import unlike_goings

# Two goings on of one letter with unlike ends have no state in common, since tables are settled. Each place here
# sets two of four states against the two others, and each way to do so has its place.
PARTING_NAMES = ((0, 0, 0), (0, 1, 1), (1, 0, 1), (1, 1, 0))


def pairs(table):
    """All pairs of goings on of one letter with unlike ends, and of any two states that stay, rising."""
    many = len(table.states())
    found = [((s, s), (u, u)) for s in range(many) for u in range(s + 1, many)]
    for x in range(table.letters()):
        found += unlike_goings(table, x)
    return sorted(set(found))


def raceless_names(table):
    """Names that part all pairs."""
    return list(PARTING_NAMES[:len(table.states())])
