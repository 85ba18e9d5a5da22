"""Nets with a contact that is stuck."""

from relayholds.errors import NoPiece
from relayholds.nets import CONTACT_WORDS, Net


def stuck_net(net, piece, word):
    """The net with a wire in the contact's place where it is stuck made, without it where it is stuck open."""
    a, b = contact_of(net, piece)[2:4]
    pieces = net.pieces()
    put = [("wire", a, b)] if word == "made" else []
    return with_pieces(net, net.nodes(), pieces[:piece] + put + pieces[piece + 1:])


def contact_of(net, piece):
    """The contact of that number."""
    pieces = net.pieces()
    if not 0 <= piece < len(pieces) or pieces[piece][0] not in CONTACT_WORDS:
        raise NoPiece("there is no contact of that number")
    return pieces[piece]


def with_pieces(net, nodes, pieces):
    """The net with other nodes and pieces."""
    return Net(net.key_words(), net.relays(), net.lamps(), nodes, pieces, net.times())
