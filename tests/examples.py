"""Nets, and how refusals are looked at, for all tests."""

import itertools
import random

from relayholds import errors
from relayholds.nets import Net
from relayholds.tables import Table

REFUSALS = [
    "NoNet", "NoText", "NoTable", "NoNames", "NoName", "NoPiece",
    "NoPosition", "NoState", "NotResting", "Raced", "NotSure",
]

PARTS = ("keys", "relays", "lamps", "nodes", "pieces", "times")

TIMES = (1, 2, 1, 2)
SLOWEST = (1, 4, 1, 4)
ALL_BOUNDS = [(least, most) for least in range(1, 5) for most in range(least, 5)]


def right_parts():
    """The parts of a net with pieces of all kinds, each list a new one."""
    return {
        "keys": ["set", "reset"],
        "relays": ["one", "other"],
        "lamps": ["red", "green"],
        "nodes": 8,
        "pieces": [
            ("made", "set", 0, 2),
            ("made", "one", 0, 2),
            ("broken", "reset", 2, 3),
            ("coil", "one", 3, 1),
            ("swap", "one", 0, 4, 5),
            ("coil", "other", 1, 4),
            ("lamp", "red", 5, 1),
            ("wire", 6, 4),
            ("lamp", "green", 6, 1),
        ],
        "times": [(1, 2, 3, 4), (2, 2, 1, 1)],
    }


def changed_parts(changes):
    parts = right_parts()
    parts.update(changes)
    return parts


def net_of(parts):
    return Net(*[parts[name] for name in PARTS])


def told_parts(net):
    return {
        "keys": net.key_words(),
        "relays": net.relays(),
        "lamps": net.lamps(),
        "nodes": net.nodes(),
        "pieces": net.pieces(),
        "times": net.times(),
    }


def wires_only(nodes, pieces):
    """A net that has neither keys nor relays nor lamps."""
    return Net([], [], [], nodes, pieces, [])


def greatest_net():
    """640 nodes, 800 pieces, all words of eight letters, as long a text as there is."""
    keys = ["keyaaaaa", "keybbbbb"]
    relays = ["relaaaaa", "relbbbbb", "relccccc", "relddddd"]
    lamps = ["lampaaaa", "lampbbbb"]
    pieces = [("coil", name, at, 639 - at) for at, name in enumerate(relays)]
    pieces += [("lamp", name, 600 + at, at) for at, name in enumerate(lamps)]
    names = keys + relays
    while len(pieces) < 800:
        at = len(pieces)
        node = 100 + at % 538
        pieces.append(("swap", names[at % 6], node, node + 1, node + 2))
    return Net(keys, relays, lamps, 640, pieces, [(1, 4, 2, 3)] * 4)


def follower(times):
    """A relay r that has current just where the key k is pressed."""
    return Net(["k"], ["r"], [], 3, [("made", "k", 0, 2), ("coil", "r", 2, 1)], [times])


def two_followers(times):
    """Both relays have current just where the key k is pressed."""
    pieces = [("made", "k", 0, 2), ("coil", "a", 2, 1), ("coil", "b", 2, 1)]
    return Net(["k"], ["a", "b"], [], 3, pieces, times)


def buzzer(times):
    """A relay that breaks its own current while the key is pressed."""
    pieces = [("made", "k", 0, 2), ("broken", "r", 2, 3), ("coil", "r", 3, 1)]
    return Net(["k"], ["r"], [], 4, pieces, [times])


def rivals(times):
    """Two relays, each of which has current until the other one is pulled: the first one stays."""
    pieces = [("made", "k", 0, 2), ("broken", "b", 2, 3), ("coil", "a", 3, 1),
              ("broken", "a", 2, 4), ("coil", "b", 4, 1)]
    return Net(["k"], ["a", "b"], [], 5, pieces, times)


# Of two rivals whoever is first stays; where both are pulled at once, the first one falls: two ends, no round.
TWO_ENDS = [(1, 2, 1, 1), (1, 2, 3, 3)]


def lucky_buzzer():
    """The relay a buzzes until it happens to be pulled for so long that b is, too: one end, and a round."""
    pieces = [("made", "k", 0, 2), ("broken", "a", 2, 3), ("broken", "b", 3, 4), ("coil", "a", 4, 1),
              ("made", "a", 2, 5), ("made", "b", 2, 5), ("coil", "b", 5, 1)]
    return Net(["k"], ["a", "b"], [], 6, pieces, [(1, 1, 1, 2), (2, 2, 1, 1)])


def four_buzzers():
    """As many states as there can be by one position's keys."""
    names = list("abcd")
    pieces = []
    for at, name in enumerate(names):
        pieces += [("broken", name, 0, 2 + at), ("coil", name, 2 + at, 1)]
    return Net([], names, [], 6, pieces, [SLOWEST] * 4)


def chains():
    """All 640 nodes, one behind another, in several orders, from plus on, minus last."""
    middle = list(range(2, 640))
    orders = [middle, middle[::-1], middle[::2] + middle[1::2]]
    for seed in range(3):
        orders.append(list(middle))
        random.Random(seed).shuffle(orders[-1])
    return [[0] + order + [1] for order in orders]


def random_net(seed):
    """A small net of any shape; the same one for the same seed."""
    chance = random.Random(seed)
    keys = ["ka", "kb"][:chance.randrange(3)]
    relays = ["ra", "rb", "rc", "rd"][:chance.randrange(4)]
    lamps = ["la", "lb"][:chance.randrange(3)]
    nodes = chance.randrange(3, 9)
    pieces = [("coil", name) + pick_nodes(chance, nodes, 2) for name in relays]
    pieces += [("lamp", name) + pick_nodes(chance, nodes, 2) for name in lamps]
    for _ in range(chance.randrange(nodes + 4)):
        pieces.append(random_contact(chance, keys + relays, nodes))
    chance.shuffle(pieces)
    times = []
    for _ in relays:
        times.append(tuple(sorted(pick_times(chance)) + sorted(pick_times(chance))))
    return Net(keys, relays, lamps, nodes, pieces, times)


def lively_net(seed, relays=None):
    """A net whose coils mostly have rows of contacts from plus, so that relays are called often."""
    chance = random.Random(seed)
    keys = ["ka", "kb"][:chance.randrange(3)]
    relays = ["ra", "rb", "rc", "rd"][:chance.randrange(1, 5) if relays is None else relays]
    lamps = ["la", "lb"][:chance.randrange(3)]
    starts = {name: 2 + at for at, name in enumerate(relays + lamps)}
    # Some inner nodes are in several rows, so that current also goes from one row into another.
    nodes = 2 + len(starts) + chance.randrange(1, 4)
    pieces = [("coil" if name in relays else "lamp", name, node, 1) for name, node in starts.items()]
    for node in starts.values():
        for _ in range(chance.randrange(1, 3)):
            inner = chance.randrange(2 + len(starts), nodes)
            pieces += [lively_contact(chance, keys + relays, nodes, stops) for stops in ((0, inner), (inner, node))]
        pieces.append(lively_contact(chance, keys + relays, nodes, (node, 0)))
    chance.shuffle(pieces)
    times = [tuple(sorted(pick_times(chance)) + sorted(pick_times(chance))) for _ in relays]
    return Net(keys, relays, lamps, nodes, pieces, times)


def lively_contact(chance, names, nodes, stops):
    word = chance.choice(["wire", "made", "broken", "made", "broken", "swap"])
    if word == "wire":
        return ("wire",) + stops
    others = [node for node in range(nodes) if node not in stops + (1,)]
    return (word, chance.choice(names)) + stops + ((chance.choice(others),) if word == "swap" else ())


def random_contact(chance, names, nodes):
    word = chance.choice(["wire", "made", "broken", "swap"]) if names else "wire"
    if word == "wire":
        return ("wire",) + pick_nodes(chance, nodes, 2)
    return (word, chance.choice(names)) + pick_nodes(chance, nodes, 3 if word == "swap" else 2)


def pick_nodes(chance, nodes, many):
    return tuple(chance.sample(range(nodes), many))


def pick_times(chance):
    return [chance.randrange(1, 5), chance.randrange(1, 5)]


def settled_rows(many):
    """All ways in which so many states can go by one letter: whatever is gone to stays."""
    return [row for row in itertools.product(range(many), repeat=many) if all(row[t] == t for t in row)]


def table_of(columns, lights, lamps=("la", "lb")):
    """A table by the states' goings for each letter, and their lights."""
    keys = ["ka", "kb"][:{1: 0, 2: 1, 4: 2}[len(columns)]]
    states = ["sa", "sb", "sc", "sd"][:len(columns[0])]
    rows = [[column[s] for column in columns] for s in range(len(states))]
    return Table(keys, states, list(lamps[:len(lights[0])]), rows, lights)


def random_table(seed, states=None, keys=None):
    chance = random.Random(seed)
    states = chance.randrange(2, 5) if states is None else states
    keys = chance.randrange(3) if keys is None else keys
    columns = [chance.choice(settled_rows(states)) for _ in range(2 ** keys)]
    lamps = chance.randrange(3)
    lights = [tuple(chance.randrange(2) for _ in range(lamps)) for _ in range(states)]
    return table_of(columns, lights)


def random_names(chance, states):
    places = chance.randrange(2 if states > 2 else 1, 5)
    return chance.sample(list(itertools.product((0, 1), repeat=places)), states)


# What is no names of a table of three states.
WRONG_NAMES = [
    [],
    [(0, 0)],
    [(0, 0), (0, 1)],
    [(0, 0), (0, 1), (1, 0), (1, 1)],
    [(0, 0), (0, 1), (1, 0), ()],
    [(), (), ()],
    [(0, 0, 0, 0, 0), (0, 0, 0, 0, 1), (0, 0, 0, 1, 0)],
    [(0,), (0, 1), (1, 0)],
    [(0, 0), (0, 1), (1,)],
    [(0, 0), (0, 1, 0), (1, 0)],
    [(0, 0), (), (1, 0)],
    [(), (0, 1), (1, 0)],
    [(0, 0, 0), (0, 1), (1, 0)],
    [(2, 0), (0, 1), (1, 0)],
    [(0, 0), (0, -1), (1, 0)],
    [(0, 0), (0, 1), (10 ** 20, 0)],
    [(0, 0), (0, 1), (0, 0)],
    [(0, 1), (0, 1), (1, 0)],
    [(0, 1), (1, 1), (1, 1)],
    [(0,), (1,), (0,)],
    [(0,), (1,), (2,)],
]


def refusal(case, name, function, *arguments):
    """The refusal of that class, and of no other one, that function meets."""
    with case.assertRaises(ValueError) as caught:
        function(*arguments)
    case.assertIsInstance(caught.exception, errors.RelayError)
    for other in REFUSALS:
        case.assertEqual(isinstance(caught.exception, getattr(errors, other)), other == name, other)
    return caught.exception
