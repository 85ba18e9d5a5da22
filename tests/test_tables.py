import itertools
import unittest

from relayholds.tables import Table, pressed_by
from tests.examples import refusal, random_table, settled_rows, table_of

PARTS = ("keys", "states", "lamps", "rows", "lights")


def right_parts():
    """By letter 1 all go to the second state, by letter 2 to the third one, else each stays."""
    return {
        "keys": ["on", "off"],
        "states": ["idle", "warm", "hot"],
        "lamps": ["red", "green"],
        "rows": [[0, 1, 2, 0], [1, 1, 2, 1], [2, 1, 2, 2]],
        "lights": [(0, 0), (0, 1), (1, 1)],
    }


def table_with(parts):
    return Table(*[parts[name] for name in PARTS])


def changed(changes):
    parts = right_parts()
    parts.update(changes)
    return parts


def spoil(name, at, value):
    """Set an item of one of the parts, or, where at is None, put one more behind."""
    def change(parts):
        if at is None:
            parts[name].append(value)
        else:
            parts[name][at] = value
    return change


def spoil_number(s, x, number):
    def change(parts):
        parts["rows"][s][x] = number
    return change


# For each fault, in the order in which they are told, what brings it about.
SPOILERS = [
    (("words", 1), spoil("keys", 1, "Off")),
    (("many", 0), spoil("keys", None, "more")),
    (("many", 1), lambda parts: parts.update({"states": ["idle"]})),
    (("many", 2), spoil("lamps", None, "blue")),
    (("row", 1), spoil("rows", 1, [1, 1, 2])),
    (("row", 2), spoil_number(2, 0, 3)),
    (("row", 3), spoil("rows", None, [0, 0, 0, 0])),
    (("lights", 0), spoil("lights", 0, (0,))),
    (("lights", 2), spoil("lights", 2, (0, 2))),
    (("lights", 3), spoil("lights", None, (0, 0))),
    (("unsettled", 0), spoil_number(1, 1, 2)),
]


class TableCase(unittest.TestCase):

    def assert_fault(self, fault, parts):
        self.assertEqual(refusal(self, "NoTable", table_with, parts).fault, fault)

    def assert_changed_fault(self, fault, changes):
        self.assert_fault(fault, changed(changes))


class RightTablesTest(TableCase):

    def test_what_is_told(self):
        table = table_with(right_parts())
        parts = right_parts()
        self.assertEqual((table.key_words(), table.states(), table.lamps()),
                         (parts["keys"], parts["states"], parts["lamps"]))
        self.assertEqual(table.letters(), 4)
        for s, x in itertools.product(range(3), range(4)):
            self.assertEqual(table.goes(s, x), parts["rows"][s][x])
        self.assertEqual([table.lights(s) for s in range(3)], parts["lights"])
        self.assertEqual([type(told) for told in (table.key_words(), table.letters(), table.goes(0, 0), table.lights(0))],
                         [list, int, int, tuple])

    def test_letters(self):
        for keys, many in ((0, 1), (1, 2), (2, 4)):
            table = Table(["a", "b"][:keys], ["s", "t"], [], [[0] * many, [1] * many], [(), ()])
            self.assertEqual(table.letters(), many)

    def test_pressed_by(self):
        told = {(many, x): pressed_by(many, x) for many in range(3) for x in range(2 ** many)}
        self.assertEqual(told, {
            (0, 0): (), (1, 0): (0,), (1, 1): (1,),
            (2, 0): (0, 0), (2, 1): (1, 0), (2, 2): (0, 1), (2, 3): (1, 1)})

    def test_bounds(self):
        for keys, states, lamps in itertools.product(range(3), range(2, 5), range(3)):
            words = list("abcdefgh")
            rows = [[s] * 2 ** keys for s in range(states)]
            lights = [(1,) * lamps] * states
            table = Table(words[:keys], words[2:2 + states], words[6:6 + lamps], rows, lights)
            self.assertEqual((len(table.key_words()), len(table.states()), len(table.lamps())), (keys, states, lamps))
        eight = "abcdefgh"
        self.assertEqual(Table([], [eight, "z"], [], [[0], [1]], [(), ()]).states(), [eight, "z"])

    def test_settled_or_not(self):
        """All ways to go by one letter: just those where what is gone to stays make a table."""
        for many in (2, 3, 4):
            right = settled_rows(many)
            self.assertEqual(len(right), {2: 3, 3: 10, 4: 41}[many])
            for column in itertools.product(range(many), repeat=many):
                states, rows = list("abcd")[:many], [[t] for t in column]
                if column in right:
                    table = Table([], states, [], rows, [()] * many)
                    self.assertEqual([table.goes(s, 0) for s in range(many)], list(column))
                else:
                    wrong = min(s for s, t in enumerate(column) if column[t] != t)
                    fault = refusal(self, "NoTable", Table, [], states, [], rows, [()] * many).fault
                    self.assertEqual(fault, ("unsettled", wrong))

    def test_many_tables(self):
        for seed in range(50):
            table = random_table(seed)
            for s, x in itertools.product(range(len(table.states())), range(table.letters())):
                t = table.goes(s, x)
                self.assertEqual(table.goes(t, x), t)


class FaultsTest(TableCase):

    def test_words(self):
        for word in ("", "ninesigns", "A", "a b", "a1", "1", "on ", "\n", "~", "Idle"):
            for name, first in (("keys", 0), ("states", 2), ("lamps", 5)):
                for at in range(len(right_parts()[name])):
                    parts = right_parts()
                    parts[name][at] = word
                    self.assert_fault(("words", first + at), parts)

    def test_words_that_stand_ahead_already(self):
        words = right_parts()["keys"] + right_parts()["states"] + right_parts()["lamps"]
        for late, early in itertools.combinations(range(7)[::-1], 2):
            now = list(words)
            now[late] = words[early]
            parts = changed({"keys": now[:2], "states": now[2:5], "lamps": now[5:]})
            self.assert_fault(("words", late), parts)

    def test_first_of_several_words(self):
        self.assert_changed_fault(("words", 1), {"keys": ["on", "on"], "states": ["X", "warm", "hot"]})
        self.assert_changed_fault(("words", 2), {"states": ["X", "on", "hot"], "lamps": ["red", "red"]})

    def test_many(self):
        self.assert_changed_fault(("many", 0), {"keys": ["a", "b", "c"]})
        self.assert_changed_fault(("many", 0), {"keys": list("abcdefghijklmnopq")})
        for states in ([], ["a"], list("abcde"), list("abcdefghi")):
            self.assert_changed_fault(("many", 1), {"states": states})
        self.assert_changed_fault(("many", 2), {"lamps": ["a", "b", "c"]})
        self.assert_changed_fault(("many", 0), {"keys": ["a", "b", "c"], "states": [], "lamps": ["x", "y", "z"]})
        self.assert_changed_fault(("many", 1), {"states": ["s"], "lamps": ["x", "y", "z"]})

    def test_rows(self):
        right = right_parts()["rows"]
        for s in range(3):
            for row in ([], right[s][:3], right[s] + [0], [3, 1, 2, 0], [0, 1, 2, -1], [0, 1, 10 ** 20, 0], [0] * 16):
                self.assert_changed_fault(("row", s), {"rows": right[:s] + [row] + right[s + 1:]})
            self.assert_changed_fault(("row", s), {"rows": right[:s]})
        for more in range(1, 4):
            self.assert_changed_fault(("row", 3), {"rows": right + [[]] * more})
        self.assert_changed_fault(("row", 1), {"rows": [right[0], []] + right})
        self.assert_changed_fault(("row", 0), {"rows": [[]]})

    def test_lights(self):
        right = right_parts()["lights"]
        for s in range(3):
            for lights in ((), (0,), (0, 0, 0), (2, 0), (0, -1), (0, 10 ** 20)):
                self.assert_changed_fault(("lights", s), {"lights": right[:s] + [lights] + right[s + 1:]})
            self.assert_changed_fault(("lights", s), {"lights": right[:s]})
        for more in range(1, 4):
            self.assert_changed_fault(("lights", 3), {"lights": right + [()] * more})
        self.assert_changed_fault(("lights", 1), {"lights": [right[0], ()] + right})

    def test_unsettled(self):
        self.assert_changed_fault(("unsettled", 1), {"rows": [[0, 1, 2, 0], [1, 1, 2, 2], [2, 1, 2, 0]]})
        self.assert_changed_fault(("unsettled", 2), {"rows": [[0, 0, 0, 0], [1, 0, 1, 1], [2, 1, 2, 2]]})
        for s, t in itertools.permutations(range(4), 2):
            column = [0, 1, 2, 3]
            column[s], column[t] = t, s
            parts = {"keys": [], "states": list("abcd"), "lamps": [], "rows": [[to] for to in column], "lights": [()] * 4}
            self.assert_fault(("unsettled", min(s, t)), parts)

    def test_single_faults(self):
        for fault, change in SPOILERS:
            parts = right_parts()
            change(parts)
            self.assert_fault(fault, parts)

    def test_two_faults_at_once(self):
        for (fault, change), (late_fault, change_late) in itertools.combinations(SPOILERS, 2):
            parts = right_parts()
            # A row that is put in anew would undo what is wrong within it.
            for spoiler in sorted((change, change_late), key=lambda one: one.__qualname__.startswith("spoil_number")):
                spoiler(parts)
            self.assert_fault(fault, parts)

    def test_refused_changes_nothing(self):
        parts = changed({"rows": [[0, 1, 2, 0], [1, 1, 2, 2], [2, 1, 2, 0]]})
        copy = changed({"rows": [[0, 1, 2, 0], [1, 1, 2, 2], [2, 1, 2, 0]]})
        self.assert_fault(("unsettled", 1), parts)
        self.assertEqual(parts, copy)


class OwnListsTest(TableCase):

    def test_lists_handed_in_are_changed_later(self):
        parts = right_parts()
        table = table_with(parts)
        self.assertEqual(parts, right_parts())
        parts["rows"][0][1] = 0
        for name in PARTS:
            parts[name].clear()
        self.assert_told_as_right(table)

    def test_told_lists_are_the_askers_own(self):
        table = table_with(right_parts())
        for told in (table.key_words(), table.states(), table.lamps()):
            told.clear()
        self.assert_told_as_right(table)

    def test_two_tables_by_turns(self):
        one, other = table_with(right_parts()), table_of([(0, 0)], [(1,), (0,)])
        self.assertEqual((other.goes(1, 0), other.lights(0), other.letters()), (0, (1,), 1))
        self.assert_told_as_right(one)
        self.assertEqual((other.goes(1, 0), other.lights(0), other.letters()), (0, (1,), 1))

    def assert_told_as_right(self, table):
        rows = [[table.goes(s, x) for x in range(table.letters())] for s in range(3)]
        lights = [table.lights(s) for s in range(3)]
        told = (table.key_words(), table.states(), table.lamps(), rows, lights)
        self.assertEqual(dict(zip(PARTS, told)), right_parts())
