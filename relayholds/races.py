"""Races of names: where relays that change one by one may come to one name on two ways with unlike ends."""

from relayholds.names import check_names, span
from relayholds.tables import unlike_goings


def races(table, names):
    """All tuples (x, s, u, name), rising: by letter x the ways of states s and u both lead over the name."""
    check_names(table, names)
    found = []
    for x in range(table.letters()):
        for one, other in unlike_goings(table, x):
            name = least_between(names, one, other)
            if name is not None:
                found.append((x, one[0], other[0], name))
    return found


def least_between(names, one, other):
    """The least name in the spans of both goings on, or None."""
    s, t = one
    u, v = other
    within = span(names[u], names[v])
    return min([name for name in span(names[s], names[t]) if name in within], default=None)


def steps(table, names, race):
    """How the names of both states of a race come to its name, one place changed at each step."""
    check_names(table, names)
    x, s, u, name = race
    return (steps_between(names[s], name), steps_between(names[u], name))


def steps_between(start, goal):
    """Only places where the two differ are changed, so all steps lie in any span that has both."""
    found = [start]
    for at, bit in enumerate(goal):
        if start[at] != bit:
            found.append(goal[:at + 1] + start[at + 1:])
    return found
