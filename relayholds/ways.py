"""Over which pieces current goes through a coil or lamp, and what is lacking where it has none."""

from relayholds.current import MINUS, PLUS, is_fed, joined, links
from relayholds.errors import NoName
from relayholds.nets import ends_of

FED_WORDS = ("coil", "lamp")


def way(net, position, name):
    """The numbers of the pieces from plus through the coil or lamp to minus, as few as any; None without current."""
    own = number_of(net, FED_WORDS, name)
    beside = numbered_neighbours(net.nodes(), links(net, position))
    from_plus = steps_from(PLUS, beside)
    if MINUS in from_plus:
        return None
    from_minus = steps_from(MINUS, beside)
    a, b = ends_of(net.pieces()[own])
    for first, last in ((a, b), (b, a)):
        if first in from_plus and last in from_minus:
            return steps_back(first, from_plus)[::-1] + [own] + steps_back(last, from_minus)
    return None


def lack(net, position, name):
    """Why a coil or lamp has no current; None where it has."""
    ends = ends_of(net.pieces()[number_of(net, FED_WORDS, name)])
    least = joined(net, position)
    if least[MINUS] == PLUS:
        return ("short", [])
    if is_fed(ends, least):
        return None
    if PLUS not in [least[end] for end in ends]:
        return ("plus", nodes_joined_to(PLUS, least))
    return ("minus", nodes_joined_to(MINUS, least))


def number_of(net, words, name):
    """The number of the piece with that name that begins with one of the words."""
    for at, piece in enumerate(net.pieces()):
        if piece[0] in words and piece[1] == name:
            return at
    raise NoName("nothing of that kind has this name")


def nodes_joined_to(node, least):
    """Of plus, or of minus where the position is not short: no lesser node is joined to them then."""
    return [at for at, root in enumerate(least) if root == node]


def numbered_neighbours(many, pairs):
    """For each node the nodes beside it, each with the number of the piece that joins them."""
    beside = [[] for node in range(many)]
    for number, pair in enumerate(pairs):
        if pair is not None:
            a, b = pair
            beside[a].append((b, number))
            beside[b].append((a, number))
    return beside


def steps_from(start, beside):
    """For each node that is joined to start the one ahead of it and the piece between, by as few pieces as any."""
    steps = {start: None}
    level = [start]
    while level:
        level = step_on(level, beside, steps)
    return steps


def step_on(level, beside, steps):
    """Write the steps from a level of nodes to new ones; those are the next level."""
    found = []
    for at in level:
        for node, number in beside[at]:
            if node not in steps:
                steps[node] = (at, number)
                found.append(node)
    return found


def steps_back(node, steps):
    """The numbers of the pieces from a node back to where the steps began."""
    numbers = []
    while steps[node] is not None:
        node, number = steps[node]
        numbers.append(number)
    return numbers
