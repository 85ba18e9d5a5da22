"""Who is called, and what a tick, or other keys, make of a state."""

from relayholds.current import check_bits, check_position, current
from relayholds.errors import NoState, NotResting
from relayholds.nets import MOST_KEYS, MOST_RELAYS
from relayholds.picks import picks


class Ticker:
    """Plays right states of one net; whom a position calls and what follows a state are reckoned once each."""

    def __init__(self, net):
        self.net = net
        self.bounds = net.times()
        self.calls = {}
        self.followers = {}

    def called_at(self, position):
        if position not in self.calls:
            self.calls[position] = called(self.net, position)
        return self.calls[position]

    def rests(self, state):
        return not any(self.called_at(state[:2]))

    def follow(self, state):
        """The nexts of a state; the list is not to be changed."""
        if state not in self.followers:
            self.followers[state] = self.tick(state)
        return self.followers[state]

    def tick(self, state):
        pressed, pulled, counts = state
        calls = self.called_at((pressed, pulled))
        grown = tuple([count + call for count, call in zip(counts, calls)])
        rows = [bits_behind(bit, count, bounds) for bit, count, bounds in zip(pulled, grown, self.bounds)]
        # The picks are rising and no two of them alike, so the states are, too.
        return [self.changed((pressed, pulled, grown), other) for other in picks(rows)]

    def changed(self, state, other):
        """The state once other relays are pulled: only who is still called, without having changed, keeps a count."""
        pressed, pulled, counts = state
        calls = self.called_at((pressed, other))
        kept = [count if call and bit == before else 0
                for count, call, bit, before in zip(counts, calls, other, pulled)]
        return (pressed, other, tuple(kept))

    def press(self, state, pressed):
        """The state once those keys are pressed: who is called now and was before is called as before."""
        pulled, counts = state[1:]
        calls = self.called_at((pressed, pulled))
        return (pressed, pulled, tuple([count if call else 0 for count, call in zip(counts, calls)]))


def called(net, position):
    """For each relay 1 where it is called, else 0."""
    fed = current(net, position)[0]
    return tuple([1 if has != bit else 0 for has, bit in zip(fed, position[1])])


def state_of(position):
    """The state of a position at which all counts are 0."""
    pressed, pulled = position
    # No net is handed in, so all that is refused is what no net has as a position.
    check_bits(pressed, min(len(pressed), MOST_KEYS))
    check_bits(pulled, min(len(pulled), MOST_RELAYS))
    return (pressed, pulled, (0,) * len(pulled))


def is_rest(net, state):
    check_state(net, state, [])
    return Ticker(net).rests(state)


def nexts(net, state):
    """All states that come of a tick, rising."""
    check_state(net, state, [])
    return Ticker(net).tick(state)


def pressed_anew(net, state, pressed):
    """The state once other keys are pressed."""
    check_state(net, state, [pressed])
    return Ticker(net).press(state, pressed)


def check_state(net, state, others):
    """Refuse a state that is none; others are keys pressed, which are looked at ahead of the counts."""
    pressed, pulled, counts = state
    for keys in [pressed] + others:
        check_position(net, (keys, pulled))
    calls = called(net, (pressed, pulled))
    if len(counts) != len(calls):
        raise NoState("a state has a count for each relay")
    for count, call, bit, bounds in zip(counts, calls, pulled, net.times()):
        if not 0 <= count <= most_count(call, bit, bounds):
            raise NoState("a count is too small or too great")


def check_rest(net, state, others):
    """Refuse a state that is none, or is not at rest; others are keys pressed, as for check_state."""
    check_state(net, state, others)
    if any(called(net, state[:2])):
        raise NotResting("the state is not at rest")


def most_count(call, bit, bounds):
    return greatest_time(bit, bounds) - 1 if call else 0


def least_time(bit, bounds):
    """The least time to pull, or to fall where the relay is pulled."""
    return bounds[2] if bit else bounds[0]


def greatest_time(bit, bounds):
    return bounds[3] if bit else bounds[1]


def bits_behind(bit, count, bounds):
    """What a relay may be behind a tick that has brought its count so far; 0 is that of one that is not called."""
    if count < least_time(bit, bounds):
        return [bit]
    if count < greatest_time(bit, bounds):
        return [0, 1]
    return [1 - bit]
