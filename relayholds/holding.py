"""Relays that hold themselves, and the contacts that keep one pulled."""

from relayholds.current import is_fed, least_nodes, links
from relayholds.nets import CONTACT_WORDS, ends_of
from relayholds.ways import number_of, way

# A contact of a pulled relay that is joined by its being pulled begins with one of these.
PULLED_WORDS = ("made", "swap")


def holds(net, position, relay):
    """Whether a pulled relay has current just by contacts of its own."""
    ends = coil_ends(net, relay)
    pairs = links(net, position)
    if not is_pulled(net, position, relay) or not has_current_without(net, ends, pairs, []):
        return False
    own = [at for at, piece in enumerate(net.pieces()) if piece[0] in PULLED_WORDS and piece[1] == relay]
    return not has_current_without(net, ends, pairs, own)


def keepers(net, position, relay):
    """The numbers of all contacts each of which alone would leave the relay without current."""
    ends = coil_ends(net, relay)
    numbers = way(net, position, relay)
    if numbers is None:
        return []
    pieces = net.pieces()
    pairs = links(net, position)
    # Without a contact that is not on this way, the way is still there.
    contacts = [at for at in sorted(numbers) if pieces[at][0] in CONTACT_WORDS]
    return [at for at in contacts if not has_current_without(net, ends, pairs, [at])]


def coil_ends(net, relay):
    return ends_of(net.pieces()[number_of(net, ("coil",), relay)])


def is_pulled(net, position, relay):
    return position[1][net.relays().index(relay)] == 1


def has_current_without(net, ends, pairs, numbers):
    """Whether a coil would have current if the pieces of these numbers joined nothing; pairs is what pieces join."""
    left = list(pairs)
    for number in numbers:
        left[number] = None
    return is_fed(ends, least_nodes(net.nodes(), left))
