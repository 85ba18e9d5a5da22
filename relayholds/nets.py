"""Nets of keys, relays and lamps, and what makes parts a net."""

from relayholds.errors import NoNet

MOST_SIGNS = 8
MOST_KEYS = 2
MOST_RELAYS = 4
MOST_LAMPS = 2
LEAST_NODES = 2
MOST_NODES = 640
MOST_PIECES = 800
LEAST_TIME = 1
MOST_TIME = 4

# How many nodes a piece has, by its first word.
MANY_ENDS = {"wire": 2, "made": 2, "broken": 2, "swap": 3, "coil": 2, "lamp": 2}
CONTACT_WORDS = ("made", "broken", "swap")


class Net:
    """A net; nothing of it changes once it is made."""

    def __init__(self, keys, relays, lamps, nodes, pieces, times):
        check_net(keys, relays, lamps, nodes, pieces, times)
        self.key_list = list(keys)
        self.relay_list = list(relays)
        self.lamp_list = list(lamps)
        self.many_nodes = nodes
        self.piece_list = list(pieces)
        self.time_list = list(times)

    # Each list is told as a copy, so that an asker may change it.

    def key_words(self):
        return list(self.key_list)

    def relays(self):
        return list(self.relay_list)

    def lamps(self):
        return list(self.lamp_list)

    def nodes(self):
        return self.many_nodes

    def pieces(self):
        return list(self.piece_list)

    def times(self):
        return list(self.time_list)


def check_net(keys, relays, lamps, nodes, pieces, times):
    """Refuse the first fault: the checks stand in the order in which faults are told."""
    check_words(keys, relays, lamps)
    check_many(keys, relays, lamps)
    check_sizes(nodes, len(pieces))
    check_pieces(keys, relays, lamps, nodes, pieces)
    check_just_one("coil", relays, pieces)
    check_just_one("lamp", lamps, pieces)
    check_times(relays, times)


def check_words(keys, relays, lamps):
    wrong = first_wrong_word(keys + relays + lamps)
    if wrong is not None:
        raise NoNet(("words", wrong))


def first_wrong_word(words):
    """The number of the first text that is no word or was there before; None if all are right."""
    seen = set()
    for at, word in enumerate(words):
        if not is_word(word) or word in seen:
            return at
        seen.add(word)
    return None


def is_word(text):
    return 1 <= len(text) <= MOST_SIGNS and all(["a" <= sign <= "z" for sign in text])


def check_many(keys, relays, lamps):
    bounds = ((keys, MOST_KEYS), (relays, MOST_RELAYS), (lamps, MOST_LAMPS))
    for at, (words, most) in enumerate(bounds):
        if len(words) > most:
            raise NoNet(("many", at))


def check_sizes(nodes, many):
    """Whether a net may have so many nodes, and so many pieces."""
    if not LEAST_NODES <= nodes <= MOST_NODES:
        raise NoNet(("nodes", nodes))
    if many > MOST_PIECES:
        raise NoNet(("pieces", many))


def check_pieces(keys, relays, lamps, nodes, pieces):
    switches = keys + relays
    names = {"made": switches, "broken": switches, "swap": switches, "coil": relays, "lamp": lamps}
    for at, piece in enumerate(pieces):
        if not is_piece(piece, names, nodes):
            raise NoNet(("piece", at))


def is_piece(piece, names, nodes):
    """names has, for each first word but that of wires, the names that may stand behind it."""
    if not piece or piece[0] not in MANY_ENDS:
        return False
    word = piece[0]
    if word in names and (len(piece) < 2 or piece[1] not in names[word]):
        return False
    ends = ends_of(piece)
    return len(ends) == MANY_ENDS[word] and are_unlike_nodes(ends, nodes)


def ends_of(piece):
    """The nodes of a piece: a wire alone has no name ahead of them."""
    return piece[1:] if piece[0] == "wire" else piece[2:]


def are_unlike_nodes(ends, nodes):
    return all([is_whole(end) and 0 <= end < nodes for end in ends]) and len(set(ends)) == len(ends)


def is_whole(value):
    """True and False are ints to Python, but no whole numbers here."""
    return isinstance(value, int) and not isinstance(value, bool)


def check_just_one(word, names, pieces):
    """Of right pieces, whether each of the names stands behind the word once."""
    found = [piece[1] for piece in pieces if piece[0] == word]
    for at, name in enumerate(names):
        if found.count(name) != 1:
            raise NoNet((word, at))


def check_times(relays, times):
    # Wrong times of a relay are told ahead of a wrong number of times: theirs is the lesser number.
    for at, bounds in enumerate(times[:len(relays)]):
        if not are_times(bounds):
            raise NoNet(("times", at))
    if len(times) != len(relays):
        raise NoNet(("times", len(times)))


def are_times(bounds):
    if len(bounds) != 4 or not all([LEAST_TIME <= time <= MOST_TIME for time in bounds]):
        return False
    return bounds[0] <= bounds[1] and bounds[2] <= bounds[3]
