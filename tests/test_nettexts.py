import unittest

from relayholds.nets import Net
from relayholds.nettexts import read_net, show_net
from tests.examples import (
    TIMES, greatest_net, net_of, random_net, refusal, right_parts, told_parts, wires_only,
)

RIGHT_TEXT = """keys set reset
relay one 1 2 3 4
relay other 2 2 1 1
lamps red green
nodes 8
made set 0 2
made one 0 2
broken reset 2 3
coil one 3 1
swap one 0 4 5
coil other 1 4
lamp red 5 1
wire 6 4
lamp green 6 1
"""

BARE_TEXT = "keys\nlamps\nnodes 2\n"

SIGNS = [chr(code) for code in range(ord(" "), ord("~") + 1)] + ["\n"]


class TextsTest(unittest.TestCase):

    def assert_there_and_back(self, net, text):
        self.assertEqual(show_net(net), text)
        again = read_net(text)
        self.assertIs(type(again), Net)
        self.assertEqual(told_parts(again), told_parts(net))
        self.assertEqual([type(part) for piece in again.pieces() for part in piece],
                         [type(part) for piece in net.pieces() for part in piece])
        self.assertEqual(show_net(again), text)

    def test_all_kinds_of_pieces(self):
        self.assert_there_and_back(net_of(right_parts()), RIGHT_TEXT)

    def test_without_anything(self):
        self.assert_there_and_back(wires_only(2, []), BARE_TEXT)
        self.assert_there_and_back(wires_only(640, []), "keys\nlamps\nnodes 640\n")

    def test_without_keys(self):
        net = Net([], ["r"], ["l"], 3, [("coil", "r", 0, 1), ("lamp", "l", 2, 0)], [(1, 1, 4, 4)])
        self.assert_there_and_back(net, "keys\nrelay r 1 1 4 4\nlamps l\nnodes 3\ncoil r 0 1\nlamp l 2 0\n")

    def test_without_relays(self):
        net = Net(["k"], [], ["l"], 10, [("lamp", "l", 9, 1), ("swap", "k", 0, 8, 9)], [])
        self.assert_there_and_back(net, "keys k\nlamps l\nnodes 10\nlamp l 9 1\nswap k 0 8 9\n")

    def test_without_lamps(self):
        net = Net(["k", "j"], ["r"], [], 100, [("coil", "r", 99, 1), ("broken", "k", 0, 10)], [TIMES])
        self.assert_there_and_back(net, "keys k j\nrelay r 1 2 1 2\nlamps\nnodes 100\ncoil r 99 1\nbroken k 0 10\n")

    def test_without_pieces(self):
        self.assert_there_and_back(Net(["k", "j"], [], [], 7, [], []), "keys k j\nlamps\nnodes 7\n")

    def test_words_of_rows_as_names(self):
        pieces = [("made", "relay", 0, 2), ("coil", "lamps", 2, 1), ("lamp", "keys", 0, 2), ("swap", "wire", 1, 0, 2)]
        net = Net(["relay", "wire"], ["lamps"], ["keys"], 3, pieces, [TIMES])
        self.assert_there_and_back(net, "keys relay wire\nrelay lamps 1 2 1 2\nlamps keys\nnodes 3\n"
                                        "made relay 0 2\ncoil lamps 2 1\nlamp keys 0 2\nswap wire 1 0 2\n")

    def test_same_piece_again(self):
        self.assert_there_and_back(wires_only(3, [("wire", 0, 2)] * 3),
                                   "keys\nlamps\nnodes 3\nwire 0 2\nwire 0 2\nwire 0 2\n")

    def test_greatest_net(self):
        net = greatest_net()
        text = show_net(net)
        self.assertEqual(text.count("\n"), 807)
        self.assertLessEqual(len(text), 24000)
        self.assert_there_and_back(net, text)

    def test_many_nets(self):
        for seed in range(80):
            net = random_net(seed)
            self.assert_there_and_back(net, show_net(net))

    def test_asked_again_and_by_turns(self):
        one, other = net_of(right_parts()), random_net(3)
        texts = (show_net(one), show_net(other))
        for _ in range(3):
            self.assertEqual((show_net(one), show_net(other)), texts)
        self.assertEqual(told_parts(one), right_parts())
        first = read_net(RIGHT_TEXT)
        first.pieces().clear()
        self.assertEqual(told_parts(read_net(RIGHT_TEXT)), right_parts())
        self.assertEqual(told_parts(first), right_parts())


class NoTextTest(unittest.TestCase):

    def assert_no_text(self, text):
        refusal(self, "NoText", read_net, text)

    def assert_none_with(self, changes):
        """Right texts in which old is replaced by new, once, are none."""
        for old, new in changes:
            self.assertIn(old, RIGHT_TEXT)
            self.assert_no_text(RIGHT_TEXT.replace(old, new, 1))

    def test_ends_of_texts(self):
        for text in ("", "\n", "\n\n", "\n" * 5, "\n" * 24000, " ", " \n", "~", "keys", "keys\n", "keys\nlamps\n",
                     "keys\nlamps\nnodes 2", "keys\nlamps\nnodes\n", "lamps\nnodes 2\n", "nodes 2\n",
                     BARE_TEXT + "\n", "\n" + BARE_TEXT, BARE_TEXT + BARE_TEXT, RIGHT_TEXT[:-1], RIGHT_TEXT + "\n",
                     "\n" + RIGHT_TEXT, RIGHT_TEXT + " ", RIGHT_TEXT + " \n", RIGHT_TEXT.replace("\n", "\n\n"),
                     RIGHT_TEXT.replace("\n", " "), RIGHT_TEXT.upper(), RIGHT_TEXT * 2):
            self.assert_no_text(text)

    def test_blanks(self):
        rows = RIGHT_TEXT.splitlines()
        for at, row in enumerate(rows):
            for wrong in (" " + row, row + " ", row.replace(" ", "  ", 1), row.replace(" ", "", 1),
                          "  ".join(row.rsplit(" ", 1)), row + "  ", row.replace(" ", "_")):
                self.assert_no_text("\n".join(rows[:at] + [wrong] + rows[at + 1:]) + "\n")
        for row in ("keys", "lamps"):
            self.assert_no_text(BARE_TEXT.replace(row, row + " "))
            self.assert_no_text(BARE_TEXT.replace(row, " " + row))

    def test_rows_missing_or_twice(self):
        # Each of these pieces but coils and lamps may be missing, or there twice.
        free = ("made", "broken", "swap", "wire")
        rows = RIGHT_TEXT.splitlines()
        for at, row in enumerate(rows):
            for changed in (rows[:at] + rows[at + 1:], rows[:at] + [row] + rows[at:]):
                text = "\n".join(changed) + "\n"
                if row.split()[0] in free:
                    self.assertEqual(show_net(read_net(text)), text)
                else:
                    self.assert_no_text(text)
            self.assert_no_text("\n".join(rows[:at] + [""] + rows[at:]) + "\n")
            self.assert_no_text("\n".join(rows[:at] + [" "] + rows[at:]) + "\n")

    def test_rows_in_another_order(self):
        rows = RIGHT_TEXT.splitlines()
        for one in range(len(rows)):
            for other in range(one):
                swapped = list(rows)
                swapped[one], swapped[other] = rows[other], rows[one]
                text = "\n".join(swapped) + "\n"
                both_relays = {one, other} == {1, 2}
                if both_relays or other > 4:
                    self.assertEqual(show_net(read_net(text)), text)
                else:
                    self.assert_no_text(text)

    def test_numbers(self):
        self.assert_none_with([
            ("nodes 8", "nodes 08"), ("nodes 8", "nodes +8"), ("nodes 8", "nodes -8"), ("nodes 8", "nodes 8.0"),
            ("nodes 8", "nodes eight"), ("nodes 8", "nodes 0x8"), ("nodes 8", "nodes 8_0"), ("nodes 8", "nodes 1_0"),
            ("nodes 8", "nodes 8 8"), ("nodes 8", "nodes 00"), ("nodes 8", "nodes 0"), ("nodes 8", "nodes 1"),
            ("nodes 8", "nodes 641"), ("nodes 8", "nodes 999999999999"), ("nodes 8", "nodes 000000000008"),
            ("nodes 8", "nodes 100000000000"), ("nodes 8", "nodes 6"), ("nodes 8", "nodes -1"),
            ("one 1 2 3 4", "one 01 2 3 4"), ("one 1 2 3 4", "one 1 +2 3 4"), ("one 1 2 3 4", "one 1 2 -3 4"),
            ("one 1 2 3 4", "one 1 2 3 04"), ("one 1 2 3 4", "one 1 2 3 5"), ("one 1 2 3 4", "one 0 2 3 4"),
            ("one 1 2 3 4", "one 1 2 4 3"), ("one 1 2 3 4", "one 2 1 3 4"), ("one 1 2 3 4", "one 1 2 3"),
            ("one 1 2 3 4", "one 1 2 3 4 4"), ("one 1 2 3 4", "one 1 2 3 x"), ("one 1 2 3 4", "one"),
            ("one 1 2 3 4", "one 1 2 3 999999999999"), ("one 1 2 3 4", "one 1 2 3 1_0"), ("one 1 2 3 4", "1 2 3 4"),
            ("wire 6 4", "wire 06 4"), ("wire 6 4", "wire 6 04"), ("wire 6 4", "wire +6 4"), ("wire 6 4", "wire 6 -4"),
            ("wire 6 4", "wire 6 8"), ("wire 6 4", "wire 6 6"), ("wire 6 4", "wire 6"), ("wire 6 4", "wire 6 4 3"),
            ("wire 6 4", "wire 6 999999999999"), ("wire 6 4", "wire 100000000000 4"), ("wire 6 4", "wire six 4"),
            ("wire 6 4", "wire 6 0_4"), ("wire 6 4", "wire 00 4"), ("wire 6 4", "wire"), ("wire 6 4", "6 4"),
            ("wire 6 4", "7"), ("wire 6 4", "wire 6 4.0"), ("wire 6 4", "wire a 6 4"), ("wire 6 4", "Wire 6 4"),
        ])

    def test_numbers_of_more_figures(self):
        for figures in range(1, 13):
            for number in ("9" * figures, "1" + "0" * (figures - 1)):
                text = f"keys\nlamps\nnodes {number}\n"
                if 2 <= int(number) <= 640:
                    self.assertEqual(show_net(read_net(text)), text)
                else:
                    self.assert_no_text(text)

    def test_nets_that_are_none(self):
        self.assert_none_with([
            ("keys set reset", "keys set set"), ("keys set reset", "keys set reset other"),
            ("keys set reset", "keys set reset more"), ("keys set reset", "keys set"), ("keys set reset", "keys"),
            ("keys set reset", "keys set Reset"), ("keys set reset", "keys set 5"), ("keys set reset", "Keys set reset"),
            ("keys set reset", "keysset reset"), ("keys set reset", "keys set,reset"), ("keys set reset", "set reset"),
            ("keys set reset", "keys set reset\nkeys"), ("keys set reset", "keys set reset longwords"),
            ("relay one", "relay set"), ("relay one", "relay other"), ("relay one", "relay ninesigns"),
            ("relay one", "relay One"), ("relay one", "relay"), ("relay one", "relay 1"), ("relay one", "relays one"),
            ("lamps red green", "lamps red red"), ("lamps red green", "lamps red green more"),
            ("lamps red green", "lamps red"), ("lamps red green", "lamps"), ("lamps red green", "lamp red green"),
            ("lamps red green", "lamps red gre3n"), ("nodes 8", "node 8"),
            ("made set 0 2", "made none 0 2"), ("made set 0 2", "made red 0 2"), ("made set 0 2", "made 0 2"),
            ("made set 0 2", "made 5 0 2"), ("made set 0 2", "made set 0 2 3"), ("made set 0 2", "made set 0"),
            ("made set 0 2", "maid set 0 2"), ("made set 0 2", "set 0 2"), ("made set 0 2", "made 0 set 2"),
            ("swap one 0 4 5", "swap one 0 4"), ("swap one 0 4 5", "swap one 0 4 4"),
            ("swap one 0 4 5", "swap one 0 4 5 6"), ("broken reset 2 3", "broken reset 2 2"),
            ("coil one 3 1", "coil other 3 1"), ("coil one 3 1", "coil set 3 1"), ("coil one 3 1", "coil one 3 3"),
            ("coil one 3 1", "coil one 3 1\ncoil one 3 1"), ("coil one 3 1", "made one 3 1"),
            ("lamp red 5 1", "lamp green 5 1"), ("lamp red 5 1", "lamp one 5 1"), ("lamp red 5 1", "lamps red 5 1"),
            ("lamp red 5 1", "lamp red 5 1\nlamp red 5 1"), ("lamp red 5 1", "relay red 1 1 1 1"),
        ])

    def test_five_relays(self):
        names = list("abcde")
        for many in (4, 5):
            text = "keys\n" + "".join(f"relay {name} 1 1 1 1\n" for name in names[:many]) + "lamps\nnodes 2\n"
            text += "".join(f"coil {name} 0 1\n" for name in names[:many])
            if many == 4:
                self.assertEqual(show_net(read_net(text)), text)
            else:
                self.assert_no_text(text)

    def test_long_texts(self):
        for row in ("keys", "lamps", "relay a 1 1 1 1", "relay", "nodes 2", "wire 0 1", "", "a", "0", " "):
            many = 24000 // (len(row) + 1)
            rows = (row + "\n") * many
            self.assert_no_text(rows)
            self.assert_no_text("keys\n" + rows)
            self.assert_no_text(BARE_TEXT + rows)
        self.assert_no_text("keys" + " a" * 11000 + "\nlamps\nnodes 2\n")
        self.assert_no_text("x" * 24000)
        self.assert_no_text(" " * 23999 + "\n")

    def test_eight_hundred_pieces(self):
        text = BARE_TEXT + "wire 0 1\n" * 800
        self.assertEqual(len(read_net(text).pieces()), 800)
        self.assert_no_text(text + "wire 0 1\n")

    def test_each_sign_changed(self):
        """Whatever single sign is changed, left out or put in: a text is none, or just what its net shows."""
        text = "keys k\nrelay r 1 2 1 1\nlamps\nnodes 12\ncoil r 10 1\nswap k 0 10 2\n"
        for at in range(len(text) + 1):
            changed = [text[:at] + text[at + 1:]] + [text[:at] + sign + text[at:] for sign in SIGNS]
            changed += [text[:at] + sign + text[at + 1:] for sign in SIGNS]
            for other in changed:
                self.assert_none_or_shown(other)

    def assert_none_or_shown(self, text):
        try:
            net = read_net(text)
        except ValueError:
            self.assert_no_text(text)
        else:
            self.assertEqual(show_net(net), text)

    def test_refused_again(self):
        for _ in range(3):
            self.assert_no_text(RIGHT_TEXT + "\n")
            self.assertEqual(told_parts(read_net(RIGHT_TEXT)), right_parts())
