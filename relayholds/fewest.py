"""The fewest places of names that part all pairs, and a paper that shows why fewer do not do."""

from relayholds.names import are_parted
from relayholds.pairs import pairs
from relayholds.picks import picks


def fewest_names(table):
    """Names of as few places as any, and for all ways to set one place fewer the first pair that stays unparted."""
    many = len(table.states())
    goings = pairs(table)
    paper = []
    places = 0
    while True:
        tried = [(ways, first_unparted(names_by(ways, many), goings)) for ways in choices(all_ways(many), places)]
        parting = [ways for ways, pair in tried if pair is None]
        if parting:
            return (names_by(parting[0], many), paper)
        paper = tried
        places += 1


def all_ways(many):
    """All ways to set a place for so many states, rising.

    The first state's is 0, since 0 and 1 can be changed about; they are not all 0, since that parts nothing.
    """
    return [(0,) + bits for bits in picks([[0, 1]] * (many - 1)) if any(bits)]


def choices(ways, many):
    """All tuples of so many of the rising ways, no two alike, each rising, all of them rising, too."""
    found = [()]
    for place in range(many):
        found = [chosen + (way,) for chosen in found for way in ways if not chosen or chosen[-1] < way]
    return found


def names_by(ways, many):
    """The names of so many states, of which each place is set in one of the ways."""
    return [tuple([way[s] for way in ways]) for s in range(many)]


def first_unparted(names, goings):
    for one, other in goings:
        if not are_parted(names, one, other):
            return (one, other)
    return None
