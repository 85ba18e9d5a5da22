"""Benches: a net on which letters are pressed and contacts get stuck, one behind another."""

from relayholds.current import current
from relayholds.ends import ends
from relayholds.errors import Raced
from relayholds.stuck import stuck_net
from relayholds.tables import pressed_by
from relayholds.ticks import check_rest, state_of


class Bench:
    """Stands at rest all the time; what is refused leaves it as it was."""

    def __init__(self, net, state):
        check_rest(net, state, [])
        self.whole_net = net
        self.net = net
        self.standing = state
        self.letters_pressed = []

    def press(self, letter):
        """Press a letter; the pulled part at which it stands then is told."""
        pulled = self.settle(self.net, pressed_by(len(self.net.key_words()), letter))
        self.letters_pressed.append(letter)
        return pulled

    def stick(self, piece, word):
        """A contact of the net that was handed in gets stuck, in the place of the one that was."""
        return self.settle(stuck_net(self.whole_net, piece, word), self.standing[0])

    def mend(self):
        return self.settle(self.whole_net, self.standing[0])

    def settle(self, net, pressed):
        """Go to the one end of that net with those keys; nothing is changed before it is known."""
        state = state_of((pressed, one_end(net, (pressed, self.standing[1]))))
        self.net = net
        self.standing = state
        return state[1]

    def state(self):
        return self.standing

    def lit(self):
        """For each lamp 1 where it has current, else 0."""
        return current(self.net, self.standing[:2])[1]

    def history(self):
        return list(self.letters_pressed)


def one_end(net, position):
    """The only end of a position at which all counts are 0."""
    rests, endless = ends(net, state_of(position))
    if len(rests) != 1 or endless is not None:
        raise Raced(None)
    return rests[0]
