"""Nets that go alike: with other words, with a contact doubled, with longer times."""

from relayholds.errors import NoPiece
from relayholds.nets import Net, check_sizes
from relayholds.stuck import contact_of, with_pieces


def renamed(net, keys, relays, lamps):
    words = dict(zip(net.key_words() + net.relays() + net.lamps(), keys + relays + lamps))
    pieces = [renamed_piece(piece, words) for piece in net.pieces()]
    return Net(keys, relays, lamps, net.nodes(), pieces, net.times())


def renamed_piece(piece, words):
    """Wires alone have no name."""
    return piece if piece[0] == "wire" else (piece[0], words[piece[1]]) + piece[2:]


def doubled(net, piece, word):
    """The net with the contact put in once more, beside it or behind it."""
    pieces = net.pieces()
    # A net that is too great is refused ahead of a piece that is none.
    check_sizes(net.nodes() + (1 if word == "behind" else 0), len(pieces) + 1)
    contact = contact_of(net, piece)
    if word == "beside":
        return with_pieces(net, net.nodes(), pieces + [contact])
    if contact[0] == "swap":
        raise NoPiece("a swap has no contact behind it")
    kind, name, a, b = contact
    between = net.nodes()
    pieces[piece] = (kind, name, a, between)
    return with_pieces(net, between + 1, pieces + [(kind, name, between, b)])


def slowed(net, k):
    """The net with all times k times as great."""
    times = [tuple([time * k for time in bounds]) for bounds in net.times()]
    return Net(net.key_words(), net.relays(), net.lamps(), net.nodes(), net.pieces(), times)
