import itertools
import unittest

from relayholds.current import current
from relayholds.nets import Net
from relayholds.ways import lack, way
from tests.examples import (
    TIMES, chains, greatest_net, lively_net, net_of, random_net, refusal, right_parts, told_parts,
)
from tests.reckoning import distance_table, ends_named, joins, positions, standing_at


class WaysCase(unittest.TestCase):

    def assert_is_way(self, net, position, name, numbers):
        """Whether the pieces lead from plus over joined ones through the named one, once, to minus."""
        self.assertIs(type(numbers), list)
        self.assertEqual({type(number) for number in numbers}, {int})
        standing, own, passed, at = standing_at(net, position), (("coil", name), ("lamp", name)), 0, 0
        for number in numbers:
            piece = net.pieces()[number]
            through = piece[:2] in own
            passed += through
            others = [node for node in piece[1:] if node != at and type(node) is int
                      and (through or joins(piece, at, node, standing))]
            self.assertIn(at, piece, (numbers, number))
            self.assertEqual(len(others), 1, (numbers, number))
            at = others[0]
        self.assertEqual((at, passed), (1, 1))

    def assert_as_reckoned(self, net):
        for position in positions(net):
            table = distance_table(net, position)
            fed = current(net, position)
            for word, names, bits in (("coil", net.relays(), fed[0]), ("lamp", net.lamps(), fed[1])):
                for name, bit in zip(names, bits):
                    if bit:
                        self.assert_fed(net, position, table, word, name)
                    else:
                        self.assert_not_fed(net, position, table, word, name)

    def assert_fed(self, net, position, table, word, name):
        told = way(net, position, name)
        self.assert_is_way(net, position, name, told)
        a, b = ends_named(net, word, name)
        steps = [table[0][one] + 1 + table[other][1] for one, other in ((a, b), (b, a))
                 if table[0][one] is not None and table[other][1] is not None]
        self.assertEqual(len(told), min(steps))
        self.assertIsNone(lack(net, position, name))

    def assert_not_fed(self, net, position, table, word, name):
        self.assertIsNone(way(net, position, name))
        ends = ends_named(net, word, name)
        sides = [[node for node in range(net.nodes()) if table[side][node] is not None] for side in (0, 1)]
        if table[0][1] is not None:
            reckoned = ("short", [])
        elif not set(ends) & set(sides[0]):
            reckoned = ("plus", sides[0])
        else:
            self.assertEqual(set(ends) & set(sides[1]), set())
            reckoned = ("minus", sides[1])
        told = lack(net, position, name)
        self.assertEqual(told, reckoned)
        self.assertEqual((type(told), type(told[1])), (tuple, list))


class SmallNetsTest(WaysCase):

    def test_all_positions_of_many_nets(self):
        for seed in range(150):
            self.assert_as_reckoned(random_net(seed))
        for seed in range(60):
            self.assert_as_reckoned(lively_net(seed))

    def test_right_net(self):
        net = net_of(right_parts())
        self.assertEqual(way(net, ((1, 0), (0, 0)), "one"), [0, 2, 3])
        self.assertEqual(way(net, ((0, 0), (1, 0)), "one"), [1, 2, 3])
        self.assertEqual(way(net, ((0, 0), (1, 0)), "other"), [4, 5])
        self.assertEqual(way(net, ((0, 0), (0, 0)), "red"), [4, 6])
        self.assertEqual(way(net, ((0, 0), (1, 0)), "green"), [4, 7, 8])
        self.assertEqual(lack(net, ((0, 0), (0, 0)), "one"), ("plus", [0, 5]))
        self.assertEqual(lack(net, ((0, 1), (1, 0)), "one"), ("plus", [0, 2, 4, 6]))
        self.assertEqual(lack(net, ((0, 0), (1, 0)), "red"), ("plus", [0, 2, 3, 4, 6]))
        self.assert_as_reckoned(net)

    def test_from_plus_to_minus_however_it_is_turned(self):
        for coil, first, last in itertools.product(((2, 3), (3, 2)), ((0, 2), (2, 0)), ((3, 1), (1, 3))):
            pieces = [("wire",) + last, ("coil", "r") + coil, ("wire",) + first]
            self.assertEqual(way(Net([], ["r"], [], 4, pieces, [TIMES]), ((), (0,)), "r"), [2, 1, 0])

    def test_straight_between_plus_and_minus(self):
        for ends in ((0, 1), (1, 0)):
            net = Net([], [], ["l"], 2, [("lamp", "l") + ends], [])
            self.assertEqual(way(net, ((), ()), "l"), [0])
            self.assertIsNone(lack(net, ((), ()), "l"))

    def test_as_few_as_any(self):
        """A long way stands ahead of a short one among the pieces; the short one hangs on a key."""
        pieces = [("wire", 0, 2), ("wire", 2, 3), ("wire", 3, 4), ("lamp", "l", 4, 5), ("wire", 5, 6), ("wire", 6, 1),
                  ("made", "k", 0, 4), ("swap", "k", 1, 5, 7)]
        net = Net(["k"], [], ["l"], 8, pieces, [])
        self.assertEqual(way(net, ((0,), ()), "l"), [0, 1, 2, 3, 4, 5])
        self.assertEqual(way(net, ((1,), ()), "l"), [6, 3, 7])

    def test_short(self):
        pieces = [("coil", "r", 0, 1), ("lamp", "l", 2, 3), ("made", "k", 0, 2), ("wire", 2, 1)]
        net = Net(["k"], ["r"], ["l"], 4, pieces, [TIMES])
        for name in ("r", "l"):
            self.assertEqual(lack(net, ((1,), (0,)), name), ("short", []))
            self.assertIsNone(way(net, ((1,), (0,)), name))
        self.assertEqual(way(net, ((0,), (0,)), "r"), [0])
        self.assertEqual(lack(net, ((0,), (0,)), "l"), ("plus", [0]))

    def test_plus_goes_ahead_of_minus(self):
        """Neither side is joined; one side; both ends at plus; both ends at minus."""
        for pieces, told in (
            ([("wire", 0, 4)], ("plus", [0, 4])),
            ([("wire", 0, 2), ("wire", 1, 4)], ("minus", [1, 4])),
            ([("wire", 1, 2), ("wire", 1, 4)], ("plus", [0])),
            ([("wire", 3, 1), ("wire", 4, 0)], ("plus", [0, 4])),
            ([("wire", 3, 0), ("wire", 4, 1)], ("minus", [1, 4])),
            ([("wire", 2, 0), ("wire", 3, 2)], ("minus", [1])),
            ([("wire", 2, 1), ("wire", 3, 2)], ("plus", [0])),
        ):
            net = Net([], [], ["l"], 5, [("lamp", "l", 2, 3)] + pieces, [])
            self.assertEqual(lack(net, ((), ()), "l"), told)
            self.assertIsNone(way(net, ((), ()), "l"))

    def test_coils_and_lamps_join_nothing(self):
        pieces = [("coil", "r", 0, 2), ("lamp", "l", 2, 1), ("lamp", "m", 0, 2)]
        net = Net([], ["r"], ["l", "m"], 3, pieces, [TIMES])
        self.assertEqual([lack(net, ((), (0,)), name) for name in "rlm"],
                         [("minus", [1]), ("plus", [0]), ("minus", [1])])


class ChainsTest(WaysCase):

    def test_chains_over_all_nodes(self):
        for chain in chains():
            for gap in (0, 1, 320, 637, 638):
                steps = list(zip(chain, chain[1:]))
                ends = steps[gap]
                pieces = [("wire", b, a) if a % 2 else ("broken", "k", a, b) for a, b in steps]
                pieces[gap] = ("coil", "r") + ends
                net = Net(["k"], ["r"], ["l"], 640, pieces + [("lamp", "l") + ends[::-1]], [TIMES])
                self.assertEqual(way(net, ((0,), (1,)), "r"), list(range(639)))
                lamps_way = list(range(gap)) + [639] + list(range(gap + 1, 639))
                self.assertEqual(way(net, ((0,), (1,)), "l"), lamps_way)
                self.assertIsNone(lack(net, ((0,), (0,)), "r"))
                self.assertIsNone(way(net, ((1,), (0,)), "l"))

    def test_lacks_of_chains(self):
        for chain in chains():
            for gap in (1, 320, 637):
                steps = list(zip(chain, chain[1:]))
                pieces = [("wire", a, b) for a, b in steps]
                pieces[gap] = ("made", "k") + steps[gap]
                pieces[-1] = ("lamp", "l") + steps[-1]
                net = Net(["k"], [], ["l"], 640, pieces, [])
                self.assertEqual(way(net, ((1,), ()), "l"), list(range(639)))
                told = ("plus", sorted(chain[:gap + 1]))
                self.assertEqual(lack(net, ((0,), ()), "l"), told)
                turned = [tuple({0: 1, 1: 0}.get(part, part) for part in piece) for piece in pieces]
                net = Net(["k"], [], ["l"], 640, turned, [])
                self.assertEqual(way(net, ((1,), ()), "l"), list(range(639))[::-1])
                self.assertEqual(lack(net, ((0,), ()), "l"),
                                 ("minus", sorted([1] + chain[1:gap + 1])))

    def test_greatest_net(self):
        net = greatest_net()
        for position in (((0, 0), (0, 0, 0, 0)), ((1, 1), (1, 1, 1, 1)), ((0, 1), (1, 0, 1, 0))):
            fed = dict(zip(net.relays() + net.lamps(), sum(current(net, position), ())))
            for name, bit in fed.items():
                self.assertEqual(way(net, position, name) is not None, bit == 1)
                self.assertEqual(lack(net, position, name) is None, bit == 1)


class RefusalsTest(WaysCase):

    WRONG = (((0,), (0, 0)), ((0, 0), (0, 0, 0)), ((0, 2), (0, 0)), ((0, 0), (-1, 0)), ((), ()))

    def test_no_name(self):
        net = net_of(right_parts())
        for name in ("set", "reset", "", "none", "One", "red ", "coil", "lamp", "x" * 30, "0", "~", "\n"):
            for function in (way, lack):
                refusal(self, "NoName", function, net, ((0, 0), (0, 0)), name)

    def test_no_position(self):
        net = net_of(right_parts())
        for position, name, function in itertools.product(self.WRONG, ("one", "other", "red", "green"), (way, lack)):
            refusal(self, "NoPosition", function, net, position, name)

    def test_no_name_ahead_of_no_position(self):
        net = net_of(right_parts())
        for position, name, function in itertools.product(self.WRONG, ("set", "", "none"), (way, lack)):
            refusal(self, "NoName", function, net, position, name)

    def test_refused_changes_nothing(self):
        net = net_of(right_parts())
        before = way(net, ((1, 0), (0, 0)), "one")
        refusal(self, "NoName", way, net, ((1, 0), (0, 0)), "set")
        self.assertEqual(way(net, ((1, 0), (0, 0)), "one"), before)
        self.assertEqual(told_parts(net), right_parts())


class OwnListsTest(WaysCase):

    def test_told_lists_are_the_askers_own(self):
        net, position = net_of(right_parts()), ((0, 1), (1, 0))
        for function, name in ((way, "green"), (lack, "one")):
            told = function(net, position, name)
            inner = told if function == way else told[1]
            copy = list(inner)
            inner.clear()
            again = function(net, position, name)
            self.assertEqual(again if function == way else again[1], copy)
        short = Net([], [], ["l"], 2, [("wire", 0, 1), ("lamp", "l", 0, 1)], [])
        lack(short, ((), ()), "l")[1].append(5)
        self.assertEqual(lack(short, ((), ()), "l"), ("short", []))

    def test_like_nets_are_told_alike(self):
        for seed in range(40):
            one, other = lively_net(seed), lively_net(seed)
            for position in positions(one):
                for name in one.relays() + one.lamps():
                    self.assertEqual(way(one, position, name), way(other, position, name))
                    self.assertEqual(way(one, position, name), way(one, position, name))
                    self.assertEqual(lack(one, position, name), lack(other, position, name))
