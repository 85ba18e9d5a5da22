"""Nets laid by names for a table: few relays, which are pulled as the state's name says."""

from relayholds.errors import NoNames, Raced
from relayholds.names import check_names
from relayholds.nets import check_many, check_times, check_words
from relayholds.plain import contacts_at, key_contacts, laid_in_rows, lamp_rows
from relayholds.races import races
from relayholds.tables import goings_on


def laid_by_names(table, names, relays, times):
    check_parts(table, names, relays, times)
    rows = lamp_rows(table, [contacts_at(relays, name) for name in names])
    for x in range(table.letters()):
        keys = key_contacts(table, x)
        for s, t in goings_on(table, x):
            contacts = keys + contacts_between(relays, names[s], names[t])
            rows += [(relay, contacts) for relay, bit in zip(relays, names[t]) if bit]
    return laid_in_rows(table.key_words(), relays, table.lamps(), rows, times)


def contacts_between(relays, one, other):
    """Contacts that are all joined just at the names in the span of the two."""
    agreed = [(relay, bit) for relay, bit, against in zip(relays, one, other) if bit == against]
    return contacts_at([relay for relay, bit in agreed], [bit for relay, bit in agreed])


def check_parts(table, names, relays, times):
    """The refusals stand in the order in which they are due."""
    keys, lamps = table.key_words(), table.lamps()
    check_words(keys, relays, lamps)
    check_many(keys, relays, lamps)
    check_times(relays, times)
    check_names(table, names)
    if len(relays) != len(names[0]):
        raise NoNames("there are not as many relays as places")
    found = races(table, names)
    if found:
        raise Raced(found[0])
