import itertools
import unittest

from relayholds.current import current, is_short, joined
from relayholds.nets import Net
from tests.examples import (
    chains, greatest_net, net_of, random_net, refusal, right_parts, told_parts, wires_only,
)
from tests.reckoning import positions, reach_table, reckoned_current

NOBODY = ((), ())


class CurrentCase(unittest.TestCase):

    def assert_as_reckoned(self, net):
        for position in positions(net):
            table = reach_table(net, position)
            least = [row.index(True) for row in table]
            fed = tuple(reckoned_current(net, table, word, names)
                        for word, names in (("coil", net.relays()), ("lamp", net.lamps())))
            self.assertEqual(joined(net, position), least)
            self.assertIs(is_short(net, position), table[0][1])
            self.assertEqual(current(net, position), fed)


class SmallNetsTest(CurrentCase):

    def test_kinds_told(self):
        net = net_of(right_parts())
        position = ((0, 0), (0, 0))
        self.assertIs(type(joined(net, position)), list)
        self.assertIs(type(is_short(net, position)), bool)
        told = current(net, position)
        self.assertEqual([type(part) for part in (told, told[0], told[1])], [tuple] * 3)
        self.assertEqual({type(bit) for part in told for bit in part}, {int})

    def test_all_positions_of_many_nets(self):
        for seed in range(150):
            self.assert_as_reckoned(random_net(seed))

    def test_right_net(self):
        net = net_of(right_parts())
        self.assertEqual(joined(net, ((0, 0), (0, 0))), [0, 1, 2, 2, 4, 0, 4, 7])
        self.assertEqual(current(net, ((0, 0), (0, 0))), ((0, 0), (1, 0)))
        self.assertEqual(joined(net, ((1, 0), (0, 0))), [0, 1, 0, 0, 4, 0, 4, 7])
        self.assertEqual(current(net, ((1, 0), (0, 0))), ((1, 0), (1, 0)))
        self.assertEqual(joined(net, ((0, 0), (1, 0))), [0, 1, 0, 0, 0, 5, 0, 7])
        self.assertEqual(current(net, ((0, 0), (1, 0))), ((1, 1), (0, 1)))
        self.assertEqual(joined(net, ((0, 1), (1, 1))), [0, 1, 0, 3, 0, 5, 0, 7])
        self.assertEqual(current(net, ((0, 1), (1, 1))), ((0, 1), (0, 1)))
        self.assert_as_reckoned(net)

    def test_made_and_broken_of_keys(self):
        for word, on in (("made", 1), ("broken", 0)):
            for ends in ((0, 2), (2, 0)):
                net = Net(["k", "j"], [], ["l"], 3, [(word, "j") + ends, ("lamp", "l", 2, 1)], [])
                for k, j in itertools.product((0, 1), repeat=2):
                    self.assertEqual(current(net, ((k, j), ())), ((), (1 if j == on else 0,)))
                    self.assertEqual(joined(net, ((k, j), ())), [0, 1, 0 if j == on else 2])

    def test_made_and_broken_of_relays(self):
        for word, on in (("made", 1), ("broken", 0)):
            pieces = [("coil", "a", 2, 1), ("coil", "b", 1, 2), (word, "b", 2, 0)]
            net = Net([], ["a", "b"], [], 3, pieces, [(1, 1, 1, 1)] * 2)
            for a, b in itertools.product((0, 1), repeat=2):
                fed = 1 if b == on else 0
                self.assertEqual(current(net, ((), (a, b))), ((fed, fed), ()))

    def test_swap_either_way(self):
        for nodes in itertools.permutations((0, 2, 3)):
            pieces = [("swap", "k") + nodes, ("lamp", "l", 2, 1), ("lamp", "m", 1, 3)]
            net = Net(["k"], [], ["l", "m"], 4, pieces, [])
            a, b, c = nodes
            for bit, pair in ((1, {a, b}), (0, {a, c})):
                lit = tuple(1 if pair == {0, node} else 0 for node in (2, 3))
                self.assertEqual(current(net, ((bit,), ())), ((), lit))
            self.assert_as_reckoned(net)

    def test_swap_of_a_relay(self):
        net = Net([], ["r"], ["l"], 3, [("coil", "r", 0, 2), ("swap", "r", 1, 0, 2), ("lamp", "l", 2, 0)],
                  [(1, 1, 1, 1)])
        self.assertEqual(current(net, ((), (0,))), ((1,), (1,)))
        self.assertEqual(current(net, ((), (1,))), ((0,), (0,)))
        self.assertEqual((is_short(net, ((), (0,))), is_short(net, ((), (1,)))), (False, True))

    def test_swap_never_joins_all_three(self):
        net = Net(["k"], [], [], 5, [("swap", "k", 4, 3, 2)], [])
        self.assertEqual(joined(net, ((0,), ())), [0, 1, 2, 3, 2])
        self.assertEqual(joined(net, ((1,), ())), [0, 1, 2, 3, 3])

    def test_key_and_relay_are_told_apart(self):
        pieces = [("made", "k", 0, 2), ("made", "r", 2, 3), ("lamp", "l", 3, 1), ("coil", "r", 2, 1)]
        net = Net(["k"], ["r"], ["l"], 4, pieces, [(1, 1, 1, 1)])
        told = {position: current(net, position) for position in positions(net)}
        self.assertEqual(told, {
            ((0,), (0,)): ((0,), (0,)), ((0,), (1,)): ((0,), (0,)),
            ((1,), (0,)): ((1,), (0,)), ((1,), (1,)): ((1,), (1,)),
        })

    def test_order_of_names_not_of_pieces(self):
        pieces = [("lamp", "m", 0, 1), ("lamp", "l", 0, 2), ("coil", "b", 2, 1), ("coil", "a", 1, 0)]
        net = Net([], ["a", "b"], ["l", "m"], 3, pieces, [(1, 1, 1, 1)] * 2)
        self.assertEqual(current(net, ((), (0, 0))), ((1, 0), (0, 1)))

    def test_short(self):
        pieces = [("coil", "r", 0, 1), ("lamp", "l", 1, 0), ("made", "k", 0, 2), ("wire", 2, 1)]
        net = Net(["k"], ["r"], ["l"], 3, pieces, [(1, 1, 1, 1)])
        for pulled in (0, 1):
            self.assertIs(is_short(net, ((0,), (pulled,))), False)
            self.assertEqual(current(net, ((0,), (pulled,))), ((1,), (1,)))
            self.assertIs(is_short(net, ((1,), (pulled,))), True)
            self.assertEqual(joined(net, ((1,), (pulled,))), [0, 0, 0])
            self.assertEqual(current(net, ((1,), (pulled,))), ((0,), (0,)))

    def test_short_by_a_wire(self):
        for wire in (("wire", 0, 1), ("wire", 1, 0)):
            self.assertIs(is_short(wires_only(2, [wire]), NOBODY), True)
        self.assertIs(is_short(wires_only(2, []), NOBODY), False)

    def test_coils_and_lamps_turned_about(self):
        for coil, lamp in itertools.product(((0, 1), (1, 0)), repeat=2):
            net = Net([], ["r"], ["l"], 2, [("coil", "r") + coil, ("lamp", "l") + lamp], [(1, 1, 1, 1)])
            self.assertEqual(current(net, ((), (0,))), ((1,), (1,)))

    def test_coils_and_lamps_join_nothing(self):
        pieces = [("coil", "r", 0, 2), ("lamp", "l", 2, 1), ("lamp", "m", 0, 2)]
        net = Net([], ["r"], ["l", "m"], 3, pieces, [(1, 1, 1, 1)])
        self.assertEqual(joined(net, ((), (0,))), [0, 1, 2])
        self.assertEqual(current(net, ((), (0,))), ((0,), (0, 0)))

    def test_both_ends_at_one_side(self):
        pieces = [("coil", "r", 0, 2), ("wire", 0, 2), ("lamp", "l", 3, 1), ("wire", 3, 1)]
        net = Net([], ["r"], ["l"], 4, pieces, [(1, 1, 1, 1)])
        self.assertEqual(current(net, ((), (1,))), ((0,), (0,)))

    def test_loose_pieces(self):
        pieces = [("wire", 2, 3), ("wire", 5, 3), ("made", "k", 4, 6), ("lamp", "l", 2, 4), ("lamp", "m", 0, 4)]
        net = Net(["k"], [], ["l", "m"], 8, pieces, [])
        self.assertEqual(joined(net, ((0,), ())), [0, 1, 2, 2, 4, 2, 6, 7])
        self.assertEqual(joined(net, ((1,), ())), [0, 1, 2, 2, 4, 2, 4, 7])
        for key in (0, 1):
            self.assertEqual(current(net, ((key,), ())), ((), (0, 0)))

    def test_rings_and_wires_twice(self):
        net = wires_only(6, [("wire", 5, 4), ("wire", 4, 3), ("wire", 3, 5), ("wire", 4, 5), ("wire", 5, 4)])
        self.assertEqual(joined(net, NOBODY), [0, 1, 2, 3, 3, 3])

    def test_without_pieces(self):
        self.assertEqual(joined(wires_only(640, []), NOBODY), list(range(640)))
        self.assertEqual(current(wires_only(2, []), NOBODY), ((), ()))


class ChainsTest(CurrentCase):

    def test_chain_over_all_nodes(self):
        for chain in chains():
            pieces = [("made", "k", a, b) for a, b in zip(chain, chain[1:])]
            net = Net(["k"], [], [], 640, pieces, [])
            self.assertEqual(joined(net, ((1,), ())), [0] * 640)
            self.assertIs(is_short(net, ((1,), ())), True)
            self.assertEqual(joined(net, ((0,), ())), list(range(640)))
            self.assertIs(is_short(net, ((0,), ())), False)

    def test_chain_with_a_coil_and_a_lamp(self):
        for chain in chains():
            for gap in (0, 1, 320, 637, 638):
                steps = list(zip(chain, chain[1:]))
                ends = steps.pop(gap)
                pieces = [("wire", b, a) if a % 2 else ("broken", "k", a, b) for a, b in steps]
                pieces += [("coil", "r") + ends, ("lamp", "l") + ends[::-1]]
                net = Net(["k"], ["r"], ["l"], 640, pieces, [(1, 1, 1, 1)])
                self.assertEqual(current(net, ((0,), (0,))), ((1,), (1,)))
                least = joined(net, ((0,), (0,)))
                self.assertEqual([least[node] for node in chain], [0] * (gap + 1) + [1] * (639 - gap))
                self.assertEqual(current(net, ((1,), (1,))), ((0,), (0,)))

    def test_greatest_net(self):
        net = greatest_net()
        for position in (((0, 0), (0, 0, 0, 0)), ((1, 1), (1, 1, 1, 1)), ((0, 1), (1, 0, 1, 0))):
            least = joined(net, position)
            self.assertEqual(len(least), 640)
            self.assertTrue(all(least[root] == root <= node for node, root in enumerate(least)))


class NoPositionTest(CurrentCase):

    def assert_no_position(self, net, position):
        for function in (joined, is_short, current):
            refusal(self, "NoPosition", function, net, position)

    def test_too_few_or_too_many(self):
        net = net_of(right_parts())
        for many, more in itertools.product(range(5), repeat=2):
            position = ((0,) * many, (0,) * more)
            if (many, more) == (2, 2):
                self.assertEqual(len(joined(net, position)), 8)
            else:
                self.assert_no_position(net, position)

    def test_none_due(self):
        net = wires_only(2, [])
        self.assertEqual(joined(net, NOBODY), [0, 1])
        for position in (((0,), ()), ((), (0,)), ((1,), (1,))):
            self.assert_no_position(net, position)

    def test_other_numbers(self):
        net = net_of(right_parts())
        for number in (2, 3, -1, -2, 10 ** 20):
            for at in range(4):
                bits = [0, 1, 0, 1]
                bits[at] = number
                self.assert_no_position(net, (tuple(bits[:2]), tuple(bits[2:])))

    def test_all_right_positions(self):
        net = net_of(right_parts())
        for position in positions(net):
            self.assertEqual(len(joined(net, position)), 8)

    def test_refused_changes_nothing(self):
        net = net_of(right_parts())
        before = [current(net, position) for position in positions(net)]
        self.assert_no_position(net, ((2, 0), (0, 0)))
        self.assertEqual([current(net, position) for position in positions(net)], before)
        self.assertEqual(told_parts(net), right_parts())


class OwnListsTest(CurrentCase):

    def test_lists_handed_in_are_changed_later(self):
        parts = right_parts()
        net = net_of(parts)
        before = [(joined(net, position), current(net, position)) for position in positions(net)]
        for name in ("keys", "relays", "lamps", "pieces", "times"):
            parts[name].clear()
        self.assertEqual([(joined(net, position), current(net, position)) for position in positions(net)], before)

    def test_told_list_is_the_askers_own(self):
        net = net_of(right_parts())
        position = ((1, 0), (1, 0))
        told = joined(net, position)
        copy = list(told)
        told.clear()
        net.pieces().clear()
        again = joined(net, position)
        self.assertEqual(again, copy)
        again[1] = 0
        self.assertIs(is_short(net, position), False)
        self.assertEqual(joined(net, position), copy)

    def test_two_nets_by_turns(self):
        one, other = net_of(right_parts()), Net(["k"], [], ["l"], 2, [("lamp", "l", 0, 1)], [])
        ones = [(joined(one, position), current(one, position)) for position in positions(one)]
        for at, position in enumerate(positions(one)):
            self.assertEqual(joined(other, ((at % 2,), ())), [0, 1])
            self.assertEqual((joined(one, position), current(one, position)), ones[at])
            self.assertEqual(current(other, ((at % 2,), ())), ((), (1,)))
