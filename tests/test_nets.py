import copy
import itertools
import unittest

from relayholds.nets import Net
from tests.examples import (
    PARTS, TIMES, changed_parts, greatest_net, net_of, random_net, refusal, right_parts, told_parts, wires_only,
)

NO_WORDS = ["", "ninesigns", "Upper", "lowerUp", "a b", "a1", "1", "a-b", "a_b", "key\n", "\n", " ", "`", "{", "~",
            "a\n", "\na", "\u00e9", "\u0431", "ab~", "@"]

NO_PIECES = [
    (), ("wire",), ("wire", 0), ("wire", 0, 2, 3), ("wire", "set", 0, 2), ("made",), ("made", "set"),
    ("made", "set", 0), ("made", "set", 0, 2, 3), ("made", 0, 2), ("broken", "set", 0), ("broken", "set", 0, 2, 3),
    ("swap", "set", 0, 2), ("swap", "set", 0, 2, 3, 4), ("coil", "one"), ("coil", "one", 0), ("coil", "one", 0, 2, 3),
    ("lamp", "red", 0), ("lamp", "red", 0, 2, 3),
    ("", 0, 2), ("Wire", 0, 2), ("wires", 0, 2), ("key", "set", 0, 2), ("set", 0, 2), (0, 2), (0, 0, 2),
    (0, "set", 0, 2), (1,), ("",), ("nodes", 8), ("wire ", 0, 2),
    ("wire", "0", 2), ("wire", 0, "2"), ("made", "set", "0", 2), ("made", "set", 0, "two"), ("swap", "set", 0, 2, "3"),
    ("swap", "set", 0, "2", 3), ("coil", "one", "3", 1), ("lamp", "red", 3, "1"), ("wire", "", ""),
    ("made", 1, 0, 2), ("broken", 0, 0, 2), ("swap", 0, 0, 2, 3), ("coil", 0, 3, 1), ("lamp", 0, 3, 1),
    ("wire", 2, 2), ("made", "set", 2, 2), ("broken", "one", 0, 0), ("swap", "set", 2, 2, 3), ("swap", "set", 2, 3, 2),
    ("swap", "set", 3, 2, 2), ("swap", "set", 2, 2, 2), ("coil", "one", 1, 1), ("lamp", "red", 1, 1),
    ("wire", 0, 8), ("wire", 8, 0), ("wire", -1, 0), ("wire", 0, -1), ("made", "set", 0, 8), ("broken", "set", -1, 0),
    ("swap", "set", 0, 1, 8), ("swap", "set", 0, 8, 1), ("swap", "set", 8, 0, 1), ("swap", "set", 0, 1, -1),
    ("coil", "one", 0, 8), ("lamp", "red", -8, 1), ("wire", 0, 640), ("wire", 0, 10 ** 20),
    ("made", "none", 0, 2), ("made", "red", 0, 2), ("broken", "green", 0, 2), ("swap", "red", 0, 2, 3),
    ("made", "", 0, 2), ("made", "wire", 0, 2), ("made", "set\n", 0, 2),
    ("coil", "set", 0, 2), ("coil", "red", 0, 2), ("coil", "none", 0, 2), ("coil", "", 0, 2),
    ("lamp", "set", 0, 2), ("lamp", "one", 0, 2), ("lamp", "none", 0, 2),
]

NO_TIMES = [
    (), (1,), (1, 1, 1), (1, 1, 1, 1, 1), (0, 1, 1, 1), (1, 0, 1, 1), (1, 1, 0, 1), (1, 1, 1, 0), (5, 5, 1, 1),
    (1, 5, 1, 1), (1, 1, 5, 5), (1, 1, 1, 5), (2, 1, 1, 1), (4, 3, 1, 1), (1, 1, 2, 1), (1, 1, 4, 3), (-1, 1, 1, 1),
    (1, 1, -2, -1), (1, 10 ** 20, 1, 1),
]

def spoil_word(parts):
    parts["keys"][1] = "Reset"
    parts["pieces"] = [tuple("Reset" if part == "reset" else part for part in piece) for piece in parts["pieces"]]


def spoil_many(parts):
    parts["keys"].append("more")


def spoil_nodes(parts):
    parts["nodes"] = 641


def spoil_many_pieces(parts):
    parts["pieces"] += [("wire", 6, 7)] * (801 - len(parts["pieces"]))


def spoil_piece(parts):
    parts["pieces"].insert(0, ("wire", 0, 0))


def spoil_coil(parts):
    parts["pieces"].insert(0, ("coil", "other", 6, 7))


def spoil_lamp(parts):
    parts["pieces"].remove(("lamp", "green", 6, 1))


def spoil_times(parts):
    parts["times"][1] = (3, 2, 1, 1)


# For each kind of fault, in the order in which they are told, what gives right parts this fault alone.
SPOILERS = [
    (("words", 1), spoil_word),
    (("many", 0), spoil_many),
    (("nodes", 641), spoil_nodes),
    (("pieces", 801), spoil_many_pieces),
    (("piece", 0), spoil_piece),
    (("coil", 1), spoil_coil),
    (("lamp", 1), spoil_lamp),
    (("times", 1), spoil_times),
]


def spoiled_parts(*spoilers):
    parts = right_parts()
    for spoil in spoilers:
        spoil(parts)
    return parts


class ToldAgainTest(unittest.TestCase):

    def test_told_as_handed_in(self):
        self.assertEqual(told_parts(net_of(right_parts())), right_parts())

    def test_kinds_told(self):
        told = told_parts(net_of(right_parts()))
        for name in PARTS:
            self.assertIs(type(told[name]), int if name == "nodes" else list)
        self.assertTrue(all(type(piece) is tuple for piece in told["pieces"] + told["times"]))

    def test_bare_nets(self):
        net = wires_only(2, [])
        self.assertEqual(told_parts(net), {"keys": [], "relays": [], "lamps": [], "nodes": 2, "pieces": [], "times": []})
        net = Net(["k"], [], [], 2, [("made", "k", 0, 1)], [])
        self.assertEqual((net.key_words(), net.pieces()), (["k"], [("made", "k", 0, 1)]))

    def test_many_nets(self):
        for seed in range(60):
            net = random_net(seed)
            again = told_parts(net)
            self.assertEqual(told_parts(net_of(again)), again)
            self.assertEqual(told_parts(net), again)

    def test_greatest_net(self):
        told = told_parts(greatest_net())
        self.assertEqual((told["nodes"], len(told["pieces"]), len(told["relays"])), (640, 800, 4))
        self.assertEqual(told_parts(net_of(told)), told)

    def test_handed_in_stays_and_may_be_changed(self):
        parts = right_parts()
        net = net_of(parts)
        self.assertEqual(parts, right_parts())
        for name in PARTS:
            if name != "nodes":
                parts[name].append(parts[name][0])
        self.assertEqual(told_parts(net), right_parts())
        for name in PARTS:
            if name != "nodes":
                parts[name].clear()
        self.assertEqual(told_parts(net), right_parts())

    def test_told_lists_are_the_askers_own(self):
        net = net_of(right_parts())
        for change in (lambda row: row.clear(), lambda row: row.append(row[0]), lambda row: row.reverse()):
            for row in (net.key_words(), net.relays(), net.lamps(), net.pieces(), net.times()):
                change(row)
            self.assertEqual(told_parts(net), right_parts())
        self.assertIsNot(net.pieces(), net.pieces())

    def test_two_nets_by_turns(self):
        one, other = net_of(right_parts()), random_net(7)
        ones, others = told_parts(one), told_parts(other)
        for _ in range(3):
            self.assertEqual(told_parts(other), others)
            self.assertEqual(told_parts(one), ones)

    def test_refused_changes_nothing(self):
        net = net_of(right_parts())
        for fault, spoil in SPOILERS:
            parts = spoiled_parts(spoil)
            before = copy.deepcopy(parts)
            for _ in range(2):
                self.assertEqual(refusal(self, "NoNet", net_of, parts).fault, fault)
            self.assertEqual(parts, before)
            self.assertEqual(told_parts(net), right_parts())


class FaultsTest(unittest.TestCase):

    def assert_fault(self, fault, changes):
        self.assertEqual(refusal(self, "NoNet", net_of, changed_parts(changes)).fault, fault, changes)

    def test_no_words(self):
        for word in NO_WORDS:
            self.assert_fault(("words", 0), {"keys": [word, "reset"]})
            self.assert_fault(("words", 1), {"keys": ["set", word]})
            self.assert_fault(("words", 2), {"relays": [word, "other"]})
            self.assert_fault(("words", 5), {"lamps": ["red", word]})
            self.assert_fault(("words", 0), {"keys": [], "relays": [], "lamps": [word]})

    def test_words_of_one_and_eight_letters(self):
        for word in ("a", "z", "az", "abcdefgh", "zzzzzzzz", "made", "wire", "keys", "relay"):
            net = Net([word], [], [], 2, [("broken", word, 0, 1)], [])
            self.assertEqual(net.key_words(), [word])

    def test_words_twice(self):
        self.assert_fault(("words", 1), {"keys": ["set", "set"]})
        self.assert_fault(("words", 3), {"relays": ["one", "set"]})
        self.assert_fault(("words", 3), {"relays": ["one", "one"]})
        self.assert_fault(("words", 4), {"lamps": ["one", "green"]})
        self.assert_fault(("words", 5), {"lamps": ["red", "reset"]})
        self.assert_fault(("words", 5), {"lamps": ["red", "red"]})

    def test_least_wrong_word(self):
        self.assert_fault(("words", 1), {"keys": ["set", "set"], "lamps": ["", "red"]})
        self.assert_fault(("words", 0), {"keys": ["", ""]})
        self.assert_fault(("words", 2), {"relays": ["set", "X"]})
        self.assert_fault(("words", 3), {"relays": ["one", "X"], "lamps": ["one", "red"]})

    def test_words_are_numbered_over_all(self):
        self.assert_fault(("words", 3), {"keys": ["a", "b", "c"], "relays": ["b"]})
        self.assert_fault(("words", 9), {"keys": list("abc"), "relays": list("defgh"), "lamps": ["i", "D"]})

    def test_too_many(self):
        self.assert_fault(("many", 0), {"keys": ["ka", "kb", "kc"]})
        self.assert_fault(("many", 1), {"relays": ["one", "other", "ra", "rb", "rc"]})
        self.assert_fault(("many", 2), {"lamps": ["red", "green", "la"]})
        self.assert_fault(("many", 0), {"keys": ["ka", "kb", "kc"], "lamps": ["red", "green", "la"]})
        self.assert_fault(("many", 1), {"relays": list("abcde"), "lamps": ["red", "green", "la"]})
        self.assert_fault(("many", 0), {"keys": list("abcd"), "relays": list("efghi")})

    def test_greatest_numbers_are_allowed(self):
        relays = list("abcd")
        pieces = [("coil", name, 0, 1) for name in relays] + [("lamp", name, 0, 1) for name in "xy"]
        net = Net(["k", "l"], relays, ["x", "y"], 2, pieces, [(1, 1, 4, 4), (4, 4, 1, 1), (1, 4, 1, 4), (2, 3, 2, 3)])
        self.assertEqual((net.relays(), net.lamps()), (relays, ["x", "y"]))

    def test_nodes(self):
        for nodes in (1, 0, -1, -2, -640, 641, 1000, 10 ** 12):
            self.assert_fault(("nodes", nodes), {"nodes": nodes})
            self.assertEqual(refusal(self, "NoNet", wires_only, nodes, []).fault, ("nodes", nodes))
        for nodes in (2, 3, 639, 640):
            self.assertEqual(wires_only(nodes, []).nodes(), nodes)
            self.assertEqual(wires_only(nodes, [("wire", nodes - 1, 0)]).nodes(), nodes)
            self.assertEqual(
                refusal(self, "NoNet", wires_only, nodes, [("wire", nodes, 0)]).fault, ("piece", 0))

    def test_pieces(self):
        for many in (801, 802, 2000):
            self.assertEqual(
                refusal(self, "NoNet", wires_only, 2, [("wire", 0, 1)] * many).fault, ("pieces", many))
        self.assertEqual(len(wires_only(2, [("wire", 0, 1)] * 800).pieces()), 800)

    def test_no_pieces(self):
        for piece in NO_PIECES:
            right = right_parts()["pieces"]
            self.assert_fault(("piece", 0), {"pieces": [piece] + right})
            self.assert_fault(("piece", 4), {"pieces": right[:4] + [piece] + right[4:]})
            self.assert_fault(("piece", 9), {"pieces": right + [piece]})

    def test_true_and_false_are_no_nodes(self):
        for piece in [("wire", 0, True), ("wire", False, 2), ("swap", "set", 0, 2, True)]:
            self.assert_fault(("piece", 0), {"pieces": [piece] + right_parts()["pieces"]})

    def test_least_wrong_piece(self):
        for one, other in itertools.permutations(NO_PIECES[::7], 2):
            self.assert_fault(("piece", 2), {"pieces": [("wire", 0, 2), ("wire", 2, 0), one, other]})

    def test_right_pieces(self):
        for piece in [("wire", 0, 1), ("wire", 1, 0), ("wire", 0, 7), ("made", "set", 7, 0), ("made", "one", 1, 0),
                      ("broken", "reset", 0, 1), ("broken", "other", 0, 1), ("swap", "set", 0, 1, 2),
                      ("swap", "other", 7, 6, 5)]:
            parts = right_parts()
            parts["pieces"].append(piece)
            self.assertEqual(net_of(parts).pieces(), right_parts()["pieces"] + [piece])

    def test_coils(self):
        right = right_parts()["pieces"]
        first, second = ("coil", "one", 3, 1), ("coil", "other", 1, 4)
        without_first = [piece for piece in right if piece != first]
        without_second = [piece for piece in right if piece != second]
        self.assert_fault(("coil", 0), {"pieces": without_first})
        self.assert_fault(("coil", 1), {"pieces": without_second})
        self.assert_fault(("coil", 0), {"pieces": []})
        self.assert_fault(("coil", 0), {"pieces": right + [first]})
        self.assert_fault(("coil", 0), {"pieces": right + [("coil", "one", 6, 7)]})
        self.assert_fault(("coil", 1), {"pieces": [second] + right})
        self.assert_fault(("coil", 0), {"pieces": right + [second, first]})
        self.assert_fault(("coil", 0), {"pieces": without_first + [second]})
        self.assert_fault(("coil", 1), {"pieces": without_second + [("made", "other", 0, 1)]})

    def test_lamps(self):
        right = right_parts()["pieces"]
        first, second = ("lamp", "red", 5, 1), ("lamp", "green", 6, 1)
        without_first = [piece for piece in right if piece != first]
        without_second = [piece for piece in right if piece != second]
        self.assert_fault(("lamp", 0), {"pieces": without_first})
        self.assert_fault(("lamp", 1), {"pieces": without_second})
        self.assert_fault(("lamp", 0), {"pieces": [piece for piece in right if piece[0] != "lamp"]})
        self.assert_fault(("lamp", 0), {"pieces": right + [("lamp", "red", 0, 2)]})
        self.assert_fault(("lamp", 1), {"pieces": [second] + right})
        self.assert_fault(("lamp", 0), {"pieces": right + [second, first]})
        self.assert_fault(("lamp", 0), {"pieces": without_first + [second]})

    def test_no_times(self):
        for times in NO_TIMES:
            self.assert_fault(("times", 0), {"times": [times, TIMES]})
            self.assert_fault(("times", 1), {"times": [TIMES, times]})
            self.assert_fault(("times", 0), {"times": [times, times]})

    def test_all_right_times(self):
        for bounds in itertools.product(range(1, 5), repeat=4):
            if bounds[0] <= bounds[1] and bounds[2] <= bounds[3]:
                parts = changed_parts({"times": [bounds, TIMES]})
                self.assertEqual(net_of(parts).times(), [bounds, TIMES])

    def test_fewer_times_than_relays(self):
        self.assert_fault(("times", 0), {"times": []})
        self.assert_fault(("times", 1), {"times": [TIMES]})
        self.assert_fault(("times", 0), {"times": [()]})

    def test_more_times_than_relays(self):
        self.assert_fault(("times", 3), {"times": [TIMES] * 3})
        self.assert_fault(("times", 9), {"times": [TIMES] * 9})
        self.assert_fault(("times", 1), {"times": [TIMES, (), TIMES]})
        self.assert_fault(("times", 0), {"times": [(), (), (), ()]})
        self.assertEqual(
            refusal(self, "NoNet", Net, [], [], [], 2, [], [TIMES, TIMES]).fault, ("times", 2))
        self.assertEqual(refusal(self, "NoNet", Net, [], [], [], 2, [], [()]).fault, ("times", 1))

    def test_times_of_no_relay_are_counted_only(self):
        self.assert_fault(("times", 4), {"times": [TIMES, TIMES, (), ()]})

    def test_single_faults(self):
        for fault, spoil in SPOILERS:
            self.assertEqual(refusal(self, "NoNet", net_of, spoiled_parts(spoil)).fault, fault)


class TwoFaultsTest(unittest.TestCase):
    """Parts with two faults of different kinds: the one that is told first goes ahead."""

    def test_each_two_kinds(self):
        for (fault, spoil), (late_fault, spoil_late) in itertools.combinations(SPOILERS, 2):
            parts = spoiled_parts(spoil_late, spoil)
            self.assertEqual(refusal(self, "NoNet", net_of, parts).fault, fault, late_fault)

    def test_all_kinds(self):
        parts = spoiled_parts(*[spoil for fault, spoil in SPOILERS[::-1]])
        self.assertEqual(refusal(self, "NoNet", net_of, parts).fault, ("words", 1))

    def test_nodes_ahead_of_pieces(self):
        parts = changed_parts({"nodes": 1, "pieces": [("wire", 0, 1)] * 801})
        self.assertEqual(refusal(self, "NoNet", net_of, parts).fault, ("nodes", 1))

    def test_too_many_relays_ahead_of_missing_coils(self):
        parts = changed_parts({"relays": list("abcde"), "pieces": [], "times": []})
        self.assertEqual(refusal(self, "NoNet", net_of, parts).fault, ("many", 1))

    def test_word_ahead_of_too_many(self):
        parts = changed_parts({"keys": ["a", "b", "c"], "lamps": ["x", "y", "x"]})
        self.assertEqual(refusal(self, "NoNet", net_of, parts).fault, ("words", 7))
