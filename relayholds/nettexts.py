"""Nets as texts, and texts as nets."""

from relayholds.errors import NoNet, NoText
from relayholds.nets import Net

FIGURES = "0123456789"
# No text has a longer number, and Python itself refuses to read very long ones.
MOST_FIGURES = 12


def show_net(net):
    rows = [["keys"] + net.key_words()]
    for name, bounds in zip(net.relays(), net.times()):
        rows.append(["relay", name] + list(bounds))
    rows.append(["lamps"] + net.lamps())
    rows.append(["nodes", net.nodes()])
    for piece in net.pieces():
        rows.append(list(piece))
    return "".join([show_row(row) for row in rows])


def show_row(row):
    return " ".join([str(part) for part in row]) + "\n"


def read_net(text):
    rows = split_rows(text)
    behind_relays = count_relay_rows(rows) + 1
    heads = [row[0] for row in rows[:1] + rows[behind_relays:behind_relays + 2]]
    if heads != ["keys", "lamps", "nodes"]:
        raise NoText("rows are missing, or in another order")
    relay_rows = [read_relay(row) for row in rows[1:behind_relays]]
    keys = rows[0][1:]
    relays = [name for name, bounds in relay_rows]
    times = [bounds for name, bounds in relay_rows]
    lamps = rows[behind_relays][1:]
    nodes = read_nodes(rows[behind_relays + 1])
    pieces = [read_piece(row) for row in rows[behind_relays + 2:]]
    try:
        return Net(keys, relays, lamps, nodes, pieces, times)
    except NoNet:
        raise NoText("the net would be none") from None


def split_rows(text):
    """The rows, each as a list of its parts; a blank too many leaves an empty part, which fits nowhere."""
    if not text.endswith("\n"):
        raise NoText("the last row is not ended")
    return [row.split(" ") for row in text[:-1].split("\n")]


def count_relay_rows(rows):
    """How many rows of relays follow the first row without a break."""
    many = 0
    while many + 1 < len(rows) and rows[many + 1][0] == "relay":
        many += 1
    return many


def read_relay(row):
    """The relay's name and times."""
    if len(row) != 6:
        raise NoText("a row of a relay has six parts")
    return (row[1], tuple([read_number(part) for part in row[2:]]))


def read_nodes(row):
    if len(row) != 2:
        raise NoText("the row of nodes has two parts")
    return read_number(row[1])


def read_piece(row):
    """A part that is no number stays a text: the net tells whether one is due there."""
    return tuple([int(part) if is_number(part) else part for part in row])


def read_number(part):
    if not is_number(part):
        raise NoText("a number is due")
    return int(part)


def is_number(part):
    """Whether a part is a number just as it would be shown."""
    if not 1 <= len(part) <= MOST_FIGURES or not all([sign in FIGURES for sign in part]):
        return False
    return part == "0" or part[0] != "0"
