"""Nets that are sure, and rows of presses by which a contact that is stuck is found out."""

from relayholds.current import current
from relayholds.ends import played_ends
from relayholds.errors import NotSure
from relayholds.stuck import stuck_net
from relayholds.tables import count_letters, pressed_by
from relayholds.ticks import Ticker, check_rest, state_of


class Walker:
    """Goes from rest to rest of a net; ends and lamps are reckoned once for each position."""

    def __init__(self, net):
        self.net = net
        self.ticker = Ticker(net)
        self.known_ends = {}
        self.known_lamps = {}

    def ends_at(self, position):
        if position not in self.known_ends:
            self.known_ends[position] = played_ends(self.ticker, state_of(position))
        return self.known_ends[position]

    def lamps_at(self, position):
        if position not in self.known_lamps:
            self.known_lamps[position] = current(self.net, position)[1]
        return self.known_lamps[position]

    def all_ends(self, pressed, places):
        """All pulled parts to which those keys may lead from the places, rising; None where some go round."""
        found = []
        for pulled in places:
            rests, endless = self.ends_at((pressed, pulled))
            if endless is not None:
                return None
            found += rests
        return tuple(sorted(set(found)))


class Trial:
    """A sure net beside the one with the stuck contact.

    A standing is a tuple of the places, pulled parts, where the sure one may stand, which is one alone, and of
    those where the stuck one may. What letters lead to hangs on these alone, not on the keys that are pressed:
    at rest nobody is called, so all counts are 0.
    """

    def __init__(self, sure, stuck):
        self.sure = sure
        self.stuck = stuck

    def standing_behind(self, pressed, standing):
        """Where both stand once those keys are pressed; None where the stuck one may go round."""
        own, others = standing
        ends_of_stuck = self.stuck.all_ends(pressed, others)
        return None if ends_of_stuck is None else (self.sure.all_ends(pressed, own), ends_of_stuck)

    def tells(self, pressed, standing):
        """Whether the lamps show which one it is, wherever the stuck one stands."""
        own, others = standing
        right = self.sure.lamps_at((pressed, own[0]))
        return all([self.stuck.lamps_at((pressed, pulled)) != right for pulled in others])


def is_sure(net, state):
    check_rest(net, state, [])
    return goes_surely(Walker(net), all_letters(net), state[1])


def goes_surely(walker, letters, pulled):
    """Whether each letter has just one end, from that rest and from all that letters lead to."""
    seen = {pulled}
    waiting = [pulled]
    while waiting:
        at = waiting.pop()
        for pressed in letters:
            places = walker.all_ends(pressed, (at,))
            if places is None or len(places) != 1:
                return False
            if places[0] not in seen:
                seen.add(places[0])
                waiting.append(places[0])
    return True


def row_of_presses(net, state, piece, word):
    """Letters, as few as any, behind which the lamps show that the contact is stuck; None where none do."""
    stuck = Walker(stuck_net(net, piece, word))
    check_rest(net, state, [])
    sure = Walker(net)
    letters = all_letters(net)
    pressed, pulled = state[:2]
    if not goes_surely(sure, letters, pulled):
        raise NotSure("some letter has not just one end")
    trial = Trial(sure, stuck)
    begun = trial.standing_behind(pressed, ((pulled,), (pulled,)))
    if begun is None:
        return None
    return [] if trial.tells(pressed, begun) else first_row(trial, letters, begun)


def first_row(trial, letters, begun):
    """Goes through all standings, by rows of one letter, of two, and so on."""
    rows = {begun: []}
    level = [begun]
    while level:
        found = []
        for standing in level:
            for x, pressed in enumerate(letters):
                reached = trial.standing_behind(pressed, standing)
                row = rows[standing] + [x]
                # Lamps hang on the keys, too, so they are looked at even where this standing is known.
                if reached is not None and trial.tells(pressed, reached):
                    return row
                if reached is not None and reached not in rows:
                    rows[reached] = row
                    found.append(reached)
        level = found
    return None


def all_letters(net):
    """The keys that each letter presses, in the order of the letters."""
    keys = net.key_words()
    return [pressed_by(len(keys), x) for x in range(count_letters(keys))]
