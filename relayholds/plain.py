"""Nets laid plainly for a table: a relay for each state."""

from relayholds.current import MINUS, PLUS
from relayholds.nets import LEAST_NODES, Net
from relayholds.tables import pressed_by


def laid_plainly(table, times):
    rows = lamp_rows(table, [[("made", word)] for word in table.states()])
    for x in range(table.letters()):
        rows += letter_rows(table, x)
    return laid_in_rows(table.key_words(), table.states(), table.lamps(), rows, times)


def letter_rows(table, x):
    """By a letter a state feeds the one to which it goes, and itself until that one is pulled."""
    states = table.states()
    keys = key_contacts(table, x)
    rows = []
    for s, word in enumerate(states):
        t = table.goes(s, x)
        rows.append((states[t], keys + [("made", word)]))
        if t != s:
            rows.append((word, keys + [("made", word), ("broken", states[t])]))
    return rows


def key_contacts(table, x):
    """Contacts that are all joined just by that letter."""
    keys = table.key_words()
    return contacts_at(keys, pressed_by(len(keys), x))


def contacts_at(words, bits):
    """Contacts that are all joined just where those keys or relays are pressed or pulled that have a 1."""
    return [("made" if bit else "broken", word) for word, bit in zip(words, bits)]


def lamp_rows(table, contacts):
    """Each state feeds the lamps of its lights, over its contacts."""
    rows = []
    for s, own in enumerate(contacts):
        rows += [(lamp, own) for lamp, bit in zip(table.lamps(), table.lights(s)) if bit]
    return rows


def laid_in_rows(keys, relays, lamps, rows, times):
    """A net in which a coil or lamp has current where all contacts of one of its rows are joined.

    A row is its name and its contacts; one without contacts is always joined. The rows have no inner nodes
    in common, so that current never goes from one of them back into another.
    """
    starts = {name: LEAST_NODES + at for at, name in enumerate(relays + lamps)}
    pieces = [("coil", name, starts[name], MINUS) for name in relays]
    pieces += [("lamp", name, starts[name], MINUS) for name in lamps]
    nodes = LEAST_NODES + len(starts)
    for name, contacts in rows:
        parts = contacts if contacts else [("wire",)]
        inner = list(range(nodes, nodes + len(parts) - 1))
        stops = [PLUS] + inner + [starts[name]]
        pieces += [part + (stops[at], stops[at + 1]) for at, part in enumerate(parts)]
        nodes += len(inner)
    return Net(keys, relays, lamps, nodes, pieces, times)
