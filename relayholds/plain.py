"""Nets laid plainly for a table: a relay for each state."""

from relayholds.current import MINUS, PLUS
from relayholds.nets import LEAST_NODES, Net
from relayholds.tables import pressed_by


def laid_plainly(table, times):
    rows = lamp_rows(table)
    for x in range(table.letters()):
        rows += letter_rows(table, x)
    return laid_in_rows(table.key_words(), table.states(), table.lamps(), rows, times)


def letter_rows(table, x):
    """By a letter a state feeds the one to which it goes, and itself until that one is pulled."""
    states = table.states()
    keys = key_contacts(table, x)
    rows = []
    for s, word in enumerate(states):
        t = table.goes(s, x)
        rows.append((states[t], keys + [("made", word)]))
        if t != s:
            rows.append((word, keys + [("made", word), ("broken", states[t])]))
    return rows


def key_contacts(table, x):
    """Contacts that are all joined just by that letter."""
    keys = table.key_words()
    pressed = pressed_by(len(keys), x)
    return [("made" if bit else "broken", key) for key, bit in zip(keys, pressed)]


def lamp_rows(table):
    rows = []
    for s, word in enumerate(table.states()):
        for lamp, bit in zip(table.lamps(), table.lights(s)):
            if bit:
                rows.append((lamp, [("made", word)]))
    return rows


def laid_in_rows(keys, relays, lamps, rows, times):
    """A net in which a coil or lamp has current where all contacts of one of its rows are joined.

    A row is its name and its contacts, one at least. The rows have no inner nodes in common, so that
    current never goes from one of them back into another.
    """
    starts = {name: LEAST_NODES + at for at, name in enumerate(relays + lamps)}
    pieces = [("coil", name, starts[name], MINUS) for name in relays]
    pieces += [("lamp", name, starts[name], MINUS) for name in lamps]
    nodes = LEAST_NODES + len(starts)
    for name, contacts in rows:
        inner = list(range(nodes, nodes + len(contacts) - 1))
        stops = [PLUS] + inner + [starts[name]]
        pieces += [contact + (stops[at], stops[at + 1]) for at, contact in enumerate(contacts)]
        nodes += len(inner)
    return Net(keys, relays, lamps, nodes, pieces, times)
