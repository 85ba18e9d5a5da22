"""Tables of states: where each goes by each letter, and its lights."""

from relayholds.errors import NoTable
from relayholds.nets import MOST_KEYS, MOST_LAMPS, first_wrong_word

LEAST_STATES = 2
MOST_STATES = 4


class Table:
    """A table; nothing of it changes once it is made."""

    def __init__(self, keys, states, lamps, rows, lights):
        check_table(keys, states, lamps, rows, lights)
        self.key_list = list(keys)
        self.state_list = list(states)
        self.lamp_list = list(lamps)
        self.row_list = [tuple(row) for row in rows]
        self.light_list = list(lights)

    # Each list is told as a copy, so that an asker may change it.

    def key_words(self):
        return list(self.key_list)

    def states(self):
        return list(self.state_list)

    def lamps(self):
        return list(self.lamp_list)

    def letters(self):
        return count_letters(self.key_list)

    def goes(self, s, x):
        return self.row_list[s][x]

    def lights(self, s):
        return self.light_list[s]


def pressed_by(many, x):
    """Which of so many keys letter x presses."""
    return tuple([(x >> key) & 1 for key in range(many)])


def count_letters(keys):
    return 1 << len(keys)


def goings_on(table, x):
    """For each state the tuple of it and of the one to which it goes by letter x."""
    return [(s, table.goes(s, x)) for s in range(len(table.states()))]


def unlike_goings(table, x):
    """All two goings on of letter x that have unlike ends, the lesser state's one first, rising."""
    goings = goings_on(table, x)
    return [(one, other) for one in goings for other in goings if one[0] < other[0] and one[1] != other[1]]


def check_table(keys, states, lamps, rows, lights):
    """Refuse the first fault: the checks stand in the order in which faults are told."""
    wrong = first_wrong_word(keys + states + lamps)
    if wrong is not None:
        raise NoTable(("words", wrong))
    check_many(keys, states, lamps)
    check_each("row", rows, len(states), count_letters(keys), len(states))
    check_each("lights", lights, len(states), len(lamps), 2)
    check_settled(rows)


def check_many(keys, states, lamps):
    if len(keys) > MOST_KEYS:
        raise NoTable(("many", 0))
    if not LEAST_STATES <= len(states) <= MOST_STATES:
        raise NoTable(("many", 1))
    if len(lamps) > MOST_LAMPS:
        raise NoTable(("many", 2))


def check_each(word, rows, many, width, bound):
    """Whether there are so many rows, each of that width, with numbers from 0 on, below the bound."""
    for s in range(many):
        if s >= len(rows) or len(rows[s]) != width or not all([0 <= number < bound for number in rows[s]]):
            raise NoTable((word, s))
    if len(rows) > many:
        raise NoTable((word, many))


def check_settled(rows):
    for s, row in enumerate(rows):
        if any([rows[t][x] != t for x, t in enumerate(row)]):
            raise NoTable(("unsettled", s))
