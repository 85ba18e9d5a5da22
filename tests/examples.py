"""Nets, and how refusals are looked at, for all tests."""

import random

from relayholds import errors
from relayholds.nets import Net

REFUSALS = [
    "NoNet", "NoText", "NoTable", "NoNames", "NoName", "NoPiece",
    "NoPosition", "NoState", "NotResting", "Raced", "NotSure",
]

PARTS = ("keys", "relays", "lamps", "nodes", "pieces", "times")

TIMES = (1, 2, 1, 2)


def right_parts():
    """The parts of a net with pieces of all kinds, each list a new one."""
    return {
        "keys": ["set", "reset"],
        "relays": ["one", "other"],
        "lamps": ["red", "green"],
        "nodes": 8,
        "pieces": [
            ("made", "set", 0, 2),
            ("made", "one", 0, 2),
            ("broken", "reset", 2, 3),
            ("coil", "one", 3, 1),
            ("swap", "one", 0, 4, 5),
            ("coil", "other", 1, 4),
            ("lamp", "red", 5, 1),
            ("wire", 6, 4),
            ("lamp", "green", 6, 1),
        ],
        "times": [(1, 2, 3, 4), (2, 2, 1, 1)],
    }


def changed_parts(changes):
    parts = right_parts()
    parts.update(changes)
    return parts


def net_of(parts):
    return Net(*[parts[name] for name in PARTS])


def told_parts(net):
    return {
        "keys": net.key_words(),
        "relays": net.relays(),
        "lamps": net.lamps(),
        "nodes": net.nodes(),
        "pieces": net.pieces(),
        "times": net.times(),
    }


def wires_only(nodes, pieces):
    """A net that has neither keys nor relays nor lamps."""
    return Net([], [], [], nodes, pieces, [])


def greatest_net():
    """640 nodes, 800 pieces, all words of eight letters, as long a text as there is."""
    keys = ["keyaaaaa", "keybbbbb"]
    relays = ["relaaaaa", "relbbbbb", "relccccc", "relddddd"]
    lamps = ["lampaaaa", "lampbbbb"]
    pieces = [("coil", name, at, 639 - at) for at, name in enumerate(relays)]
    pieces += [("lamp", name, 600 + at, at) for at, name in enumerate(lamps)]
    names = keys + relays
    while len(pieces) < 800:
        at = len(pieces)
        node = 100 + at % 538
        pieces.append(("swap", names[at % 6], node, node + 1, node + 2))
    return Net(keys, relays, lamps, 640, pieces, [(1, 4, 2, 3)] * 4)


def random_net(seed):
    """A small net of any shape; the same one for the same seed."""
    chance = random.Random(seed)
    keys = ["ka", "kb"][:chance.randrange(3)]
    relays = ["ra", "rb", "rc", "rd"][:chance.randrange(4)]
    lamps = ["la", "lb"][:chance.randrange(3)]
    nodes = chance.randrange(3, 9)
    pieces = [("coil", name) + pick_nodes(chance, nodes, 2) for name in relays]
    pieces += [("lamp", name) + pick_nodes(chance, nodes, 2) for name in lamps]
    for _ in range(chance.randrange(nodes + 4)):
        pieces.append(random_contact(chance, keys + relays, nodes))
    chance.shuffle(pieces)
    times = []
    for _ in relays:
        times.append(tuple(sorted(pick_times(chance)) + sorted(pick_times(chance))))
    return Net(keys, relays, lamps, nodes, pieces, times)


def random_contact(chance, names, nodes):
    word = chance.choice(["wire", "made", "broken", "swap"]) if names else "wire"
    if word == "wire":
        return ("wire",) + pick_nodes(chance, nodes, 2)
    return (word, chance.choice(names)) + pick_nodes(chance, nodes, 3 if word == "swap" else 2)


def pick_nodes(chance, nodes, many):
    return tuple(chance.sample(range(nodes), many))


def pick_times(chance):
    return [chance.randrange(1, 5), chance.randrange(1, 5)]


def refusal(case, name, function, *arguments):
    """The refusal of that class, and of no other one, that function meets."""
    with case.assertRaises(ValueError) as caught:
        function(*arguments)
    case.assertIsInstance(caught.exception, errors.RelayError)
    for other in REFUSALS:
        case.assertEqual(isinstance(caught.exception, getattr(errors, other)), other == name, other)
    return caught.exception
