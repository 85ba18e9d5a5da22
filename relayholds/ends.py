"""Where a state ends, whatever the times: its rests, its rounds, and runs to its rests."""

from relayholds.current import check_position
from relayholds.ticks import Ticker, check_state


def ends(net, state):
    """The pulled parts of all rests, rising, and a round of states that never rest, or None."""
    check_state(net, state, [])
    return played_ends(Ticker(net), state)


def played_ends(ticker, state):
    """The ends of a right state of the ticker's net."""
    found = reached(ticker, state)
    rests = sorted({at[1] for at in found if ticker.rests(at)})
    moving = [at for at in found if not ticker.rests(at)]
    return (rests, find_round(ticker, moving))


def run_to(net, state, pulled):
    """As few states as any from the state to a rest with that pulled part; None where there is none."""
    check_position(net, (state[0], pulled))
    check_state(net, state, [])
    ticker = Ticker(net)
    came_from = {state: None}
    level = [state]
    while level:
        for at in level:
            if at[1] == pulled and ticker.rests(at):
                return run_behind(at, came_from)
        level = go_on(ticker, level, came_from)
    return None


def reached(ticker, state):
    """The state and all to which nexts lead from it, each once."""
    came_from = {state: None}
    level = [state]
    while level:
        level = go_on(ticker, level, came_from)
    return list(came_from)


def go_on(ticker, level, came_from):
    """All new nexts of a level of states; for each is written which state it came from."""
    found = []
    for at in level:
        for follower in ticker.follow(at):
            if follower not in came_from:
                came_from[follower] = at
                found.append(follower)
    return found


def run_behind(state, came_from):
    """The states from the first one on to this one."""
    run = [state]
    while came_from[run[-1]] is not None:
        run.append(came_from[run[-1]])
    return run[::-1]


def find_round(ticker, moving):
    """A round among states that are not at rest, or None."""
    endless = without_dead_ends({at: ticker.follow(at) for at in moving})
    if not endless:
        return None
    # Each of these states has a next among them, so that going on comes back to a state some time.
    at = min(endless)
    places = {}
    while at not in places:
        places[at] = len(places)
        at = [follower for follower in endless[at] if follower in endless][0]
    return list(places)[places[at]:]


def without_dead_ends(followers):
    """Of states with their followers those from which one can go on among them for ever."""
    ahead = {at: [] for at in followers}
    many = {at: 0 for at in followers}
    for at, nexts_of_it in followers.items():
        for follower in nexts_of_it:
            if follower in followers:
                ahead[follower].append(at)
                many[at] += 1
    dead = [at for at in followers if many[at] == 0]
    while dead:
        at = dead.pop()
        for before in ahead[at]:
            many[before] -= 1
            if many[before] == 0:
                dead.append(before)
    return {at: nexts_of_it for at, nexts_of_it in followers.items() if many[at] > 0}
