"""What the document's words say, reckoned slowly and without the program, for tests to compare with."""

import itertools

from relayholds.nets import Net


def positions(net):
    keys, relays = len(net.key_words()), len(net.relays())
    for bits in itertools.product((0, 1), repeat=keys + relays):
        yield bits[:keys], bits[keys:]


def all_bits(many):
    return list(itertools.product((0, 1), repeat=many))


def standing_at(net, position):
    return dict(zip(net.key_words() + net.relays(), position[0] + position[1]))


def joins(piece, one, other, standing):
    """Whether a piece joins the nodes, by the words of the document."""
    if piece[0] == "wire":
        pair = piece[1:]
    elif piece[0] == "made":
        pair = piece[2:] if standing[piece[1]] == 1 else None
    elif piece[0] == "broken":
        pair = piece[2:] if standing[piece[1]] == 0 else None
    elif piece[0] == "swap":
        pair = (piece[2], piece[3]) if standing[piece[1]] == 1 else (piece[2], piece[4])
    else:
        pair = None
    return pair in ((one, other), (other, one))


def reach_table(net, position):
    """For each two nodes whether they are joined, reckoned from all ways over one more node each time."""
    return [[steps is not None for steps in row] for row in distance_table(net, position)]


def distance_table(net, position):
    """For each two nodes how few pieces join them, None where none do."""
    standing = standing_at(net, position)
    nodes = range(net.nodes())
    table = [[0 if a == b else None for b in nodes] for a in nodes]
    for a, b in itertools.combinations(nodes, 2):
        if any(joins(piece, a, b, standing) for piece in net.pieces()):
            table[a][b] = table[b][a] = 1
    for over, a, b in itertools.product(nodes, repeat=3):
        if table[a][over] is not None and table[over][b] is not None:
            steps = table[a][over] + table[over][b]
            if table[a][b] is None or steps < table[a][b]:
                table[a][b] = steps
    return table


def ends_named(net, word, name):
    return [piece[2:] for piece in net.pieces() if piece[:2] == (word, name)][0]


def reckoned_current(net, table, word, names):
    found = []
    for name in names:
        ends = ends_named(net, word, name)
        flows = any(table[0][a] and table[1][b] for a, b in (ends, ends[::-1]))
        found.append(1 if flows and not table[0][1] else 0)
    return tuple(found)


def net_without(net, numbers):
    """The net with the pieces of these numbers taken out."""
    pieces = [piece for at, piece in enumerate(net.pieces()) if at not in numbers]
    return Net(net.key_words(), net.relays(), net.lamps(), net.nodes(), pieces, net.times())


def reckoned_stuck(net, piece, word):
    """Each contact but the stuck one stays as it is."""
    pieces = []
    for at, part in enumerate(net.pieces()):
        if at != piece:
            pieces.append(part)
        elif word == "made":
            pieces.append(("wire", part[2], part[3]))
    return Net(net.key_words(), net.relays(), net.lamps(), net.nodes(), pieces, net.times())


def keys_of(net, letter):
    return tuple(1 if letter & 2 ** key else 0 for key in range(len(net.key_words())))


def contacts_of(net):
    return [at for at, piece in enumerate(net.pieces()) if piece[0] in ("made", "broken", "swap")]


def reckoned_span(one, other):
    return [name for name in all_bits(len(one))
            if all(name[at] == one[at] == other[at] for at in range(len(one)) if one[at] == other[at])]


def reckoned_parted(names, one, other):
    for at in range(len(names[0])):
        these, those = {names[s][at] for s in one}, {names[s][at] for s in other}
        if len(these) == 1 and len(those) == 1 and these != those:
            return True
    return False


def reckoned_pairs(table):
    states = range(len(table.states()))
    found = set()
    for s, u in itertools.product(states, repeat=2):
        for x in range(table.letters()):
            t, v = table.goes(s, x), table.goes(u, x)
            if s < u and t != v:
                found.add(((s, t), (u, v)))
        if s < u:
            found.add(((s, s), (u, u)))
    return sorted(found)


class Player:
    """Plays a net by the words of the document, with who has current kept for each position."""

    def __init__(self, net):
        self.net = net
        self.fed = {}
        self.lit = {}
        self.known = {}

    def has_current(self, position):
        if position not in self.fed:
            table = reach_table(self.net, position)
            self.fed[position] = reckoned_current(self.net, table, "coil", self.net.relays())
        return self.fed[position]

    def lamps(self, position):
        if position not in self.lit:
            table = reach_table(self.net, position)
            self.lit[position] = reckoned_current(self.net, table, "lamp", self.net.lamps())
        return self.lit[position]

    def called(self, position):
        pulled = position[1]
        return tuple(
            1 if (has == 1 and bit == 0) or (has == 0 and bit == 1) else 0
            for has, bit in zip(self.has_current(position), pulled))

    def bounds(self, relay, pulled):
        p, q, f, g = self.net.times()[relay]
        return (p, q) if pulled[relay] == 0 else (f, g)

    def is_state(self, state):
        """Of a right position with any counts."""
        pressed, pulled, counts = state
        called = self.called((pressed, pulled))
        if len(counts) != len(pulled):
            return False
        for relay, count in enumerate(counts):
            if count < 0 or (count > 0 and not called[relay]):
                return False
            if called[relay] and count >= self.bounds(relay, pulled)[1]:
                return False
        return True

    def states(self):
        """All states of the net."""
        for position in positions(self.net):
            called = self.called(position)
            ranges = [range(self.bounds(relay, position[1])[1]) if called[relay] else range(1)
                      for relay in range(len(called))]
            for counts in itertools.product(*ranges):
                yield position + (counts,)

    def nexts(self, state):
        """Each set of relays is tried; it may be the one that changes, or not."""
        pressed, pulled, counts = state
        called = self.called((pressed, pulled))
        relays = range(len(pulled))
        grown = [counts[relay] + 1 if called[relay] else counts[relay] for relay in relays]
        must = {relay for relay in relays if called[relay] and grown[relay] >= self.bounds(relay, pulled)[1]}
        may = {relay for relay in relays if called[relay] and grown[relay] >= self.bounds(relay, pulled)[0]}
        found = []
        for bits in all_bits(len(pulled)):
            changing = {relay for relay in relays if bits[relay]}
            if must <= changing <= may:
                found.append(self.after_change(pressed, pulled, grown, changing))
        return sorted(found)

    def after_change(self, pressed, pulled, grown, changing):
        new = tuple(1 - bit if relay in changing else bit for relay, bit in enumerate(pulled))
        called = self.called((pressed, new))
        counts = tuple(0 if relay in changing or not called[relay] else grown[relay] for relay in range(len(new)))
        return (pressed, new, counts)

    def pressed_anew(self, state, pressed):
        before, pulled, counts = state
        was_fed, is_fed = self.has_current((before, pulled)), self.has_current((pressed, pulled))
        kept = []
        for relay, bit in enumerate(pulled):
            calls = [(has, bit) for has in (was_fed[relay], is_fed[relay])]
            still = calls[0] == calls[1] and calls[0] in ((1, 0), (0, 1))
            kept.append(counts[relay] if still else 0)
        return (pressed, pulled, tuple(kept))

    def rests(self, state):
        return self.called(state[:2]) == (0,) * len(state[1])

    def levels(self, state):
        """Lists of the states that are first come to behind 0, 1, 2 .. ticks."""
        seen, level = {state}, [state]
        while level:
            yield level
            found = {follower for at in level for follower in self.nexts(at)} - seen
            seen |= found
            level = sorted(found)

    def reached(self, state):
        return [at for level in self.levels(state) for at in level]

    def from_position(self, position):
        """The ends and whether there is a round, all counts being 0."""
        if position not in self.known:
            self.known[position] = self.ends_and_whether_round(position + ((0,) * len(position[1]),))
        return self.known[position]

    def is_sure(self, state):
        """Of a state at rest: all rests that letters lead to are looked at, by each letter."""
        places, before = {state[1]}, set()
        while places != before:
            before = set(places)
            for pulled in before:
                for letter in range(2 ** len(self.net.key_words())):
                    rests, has_round = self.from_position((keys_of(self.net, letter), pulled))
                    if has_round or len(rests) != 1:
                        return False
                    places |= set(rests)
        return True

    def ends_and_whether_round(self, state):
        """The rests; and whether some states that are not at rest can be gone through for ever."""
        reached = self.reached(state)
        rests = sorted({at[1] for at in reached if self.rests(at)})
        moving = {at: set(self.nexts(at)) for at in reached if not self.rests(at)}
        while True:
            stuck = [at for at in moving if not moving[at] & set(moving)]
            if not stuck:
                return rests, bool(moving)
            for at in stuck:
                del moving[at]


def play_with_times(player, state, delays):
    """The rest that is come to where relay r takes delays[r][0] ticks to pull, delays[r][1] to fall; None if none."""
    seen = set()
    while not player.rests(state) and state not in seen:
        seen.add(state)
        pressed, pulled, counts = state
        called = player.called((pressed, pulled))
        grown = [count + call for count, call in zip(counts, called)]
        changing = {relay for relay, bit in enumerate(pulled)
                    if called[relay] and grown[relay] >= delays[relay][bit]}
        state = player.after_change(pressed, pulled, grown, changing)
    return state[1] if player.rests(state) else None


class Trial:
    """A sure net and the stuck one, either played by whatever tells its ends and lamps; sets are gone through."""

    def __init__(self, sure, stuck, letters):
        self.sure, self.stuck, self.letters = sure, stuck, letters

    def press(self, pressed, standing):
        """The sure one's place and the set of all where the stuck one may stand; None where it may go round."""
        place, others = standing
        found = [self.stuck.from_position((pressed, pulled)) for pulled in sorted(others)]
        if any(has_round for _, has_round in found):
            return None
        (goal,), _ = self.sure.from_position((pressed, place))
        return goal, frozenset(rest for rests, _ in found for rest in rests)

    def tells(self, pressed, standing):
        right = self.sure.lamps((pressed, standing[0]))
        return all(self.stuck.lamps((pressed, pulled)) != right for pulled in standing[1])

    def begin(self, state):
        standing = self.press(state[0], (state[1], frozenset([state[1]])))
        return None if standing is None else (state[0], standing)

    def fewest_letters(self, state):
        """How many letters tell at least; None where none do. All keys with all standings are looked at."""
        begun = self.begin(state)
        level = set() if begun is None else {begun}
        seen, many = set(level), 0
        while level:
            if any(self.tells(*at) for at in level):
                return many
            found = {(pressed, self.press(pressed, standing)) for _, standing in level for pressed in self.letters}
            level = {at for at in found if at[1] is not None} - seen
            seen |= level
            many += 1
        return None

    def does(self, state, row):
        """Whether the row tells."""
        at = self.begin(state)
        for letter in row:
            if at is None:
                return False
            pressed = self.letters[letter]
            standing = self.press(pressed, at[1])
            at = None if standing is None else (pressed, standing)
        return at is not None and self.tells(*at)
