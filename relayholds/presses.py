"""Goings of keys pressed one behind another, and how short a press may be."""

from relayholds.ticks import Ticker, called, check_rest, check_state, least_time


def behind(net, state, going):
    """All states that can be there behind the last tick of a going, rising."""
    check_state(net, state, [pressed for pressed, ticks in going])
    ticker = Ticker(net)
    found = [state]
    for pressed, ticks in going:
        found = sorted({ticker.press(at, pressed) for at in found})
        for tick in range(ticks):
            found = sorted({follower for at in found for follower in ticker.follow(at)})
    return found


def least_press(net, state, pressed):
    """For how many ticks the keys are pressed at least where a relay changes; None where nobody is called."""
    check_rest(net, state, [pressed])
    pulled = state[1]
    calls = called(net, (pressed, pulled))
    least = [least_time(bit, bounds) for call, bit, bounds in zip(calls, pulled, net.times()) if call]
    return min(least, default=None)
