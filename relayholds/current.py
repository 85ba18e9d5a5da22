"""How current goes at a position: which nodes are joined, what is short, what has current."""

from relayholds.errors import NoPosition
from relayholds.nets import ends_of

PLUS = 0
MINUS = 1


def joined(net, position):
    """For each node the least node to which it is joined."""
    return least_nodes(net.nodes(), links(net, position))


def is_short(net, position):
    return joined(net, position)[MINUS] == PLUS


def current(net, position):
    """Which relays, and which lamps, have current: 1 where so."""
    least = joined(net, position)
    return (fed(net, "coil", net.relays(), least), fed(net, "lamp", net.lamps(), least))


def check_position(net, position):
    pressed, pulled = position
    check_bits(pressed, len(net.key_words()))
    check_bits(pulled, len(net.relays()))


def check_bits(bits, many):
    if len(bits) != many or not all([bit in (0, 1) for bit in bits]):
        raise NoPosition("a position has a 0 or 1 for each key and each relay")


def links(net, position):
    """For each piece the two nodes that it joins at the position, or None where it joins nothing."""
    check_position(net, position)
    pressed, pulled = position
    switched = dict(zip(net.key_words() + net.relays(), pressed + pulled))
    return [link_of(piece, switched) for piece in net.pieces()]


def link_of(piece, switched):
    word = piece[0]
    if word == "wire":
        return ends_of(piece)
    if word == "made":
        return ends_of(piece) if switched[piece[1]] else None
    if word == "broken":
        return None if switched[piece[1]] else ends_of(piece)
    if word == "swap":
        a, b, c = ends_of(piece)
        return (a, b) if switched[piece[1]] else (a, c)
    return None


def least_nodes(many, pairs):
    """For each of so many nodes the least one that pairs of nodes join it to."""
    beside = neighbours(many, pairs)
    least = [None] * many
    # Rising, so that each node is first come to from the least one that it is joined to.
    for start in range(many):
        if least[start] is None:
            mark_joined(start, beside, least)
    return least


def neighbours(many, pairs):
    beside = [[] for node in range(many)]
    for pair in pairs:
        if pair is not None:
            a, b = pair
            beside[a].append(b)
            beside[b].append(a)
    return beside


def mark_joined(start, beside, least):
    """Write start into least, for itself and for all nodes that are joined to it."""
    least[start] = start
    waiting = [start]
    while waiting:
        at = waiting.pop()
        for node in beside[at]:
            if least[node] is None:
                least[node] = start
                waiting.append(node)


def fed(net, word, names, least):
    """For each name 1 where its coil or lamp has current, else 0."""
    ends = {piece[1]: ends_of(piece) for piece in net.pieces() if piece[0] == word}
    return tuple([1 if is_fed(ends[name], least) else 0 for name in names])


def is_fed(ends, least):
    """At a short position minus is joined to plus: then no node's least one is minus, and nothing is fed."""
    return sorted([least[end] for end in ends]) == [PLUS, MINUS]
