import itertools
import unittest

from relayholds.current import current
from relayholds.nets import Net
from relayholds.stuck import stuck_net
from tests.examples import (
    PARTS, TIMES, changed_parts, greatest_net, lively_net, net_of, random_net, refusal, right_parts, told_parts,
)
from tests.reckoning import contacts_of, positions, reckoned_stuck

WORDS = ("made", "open")


class StuckTest(unittest.TestCase):

    def test_each_contact_of_many_nets(self):
        for net in [lively_net(seed) for seed in range(60)] + [random_net(seed) for seed in range(60)]:
            before = told_parts(net)
            for piece, word in itertools.product(contacts_of(net), WORDS):
                told = stuck_net(net, piece, word)
                self.assertIs(type(told), Net)
                self.assertEqual(told_parts(told), told_parts(reckoned_stuck(net, piece, word)))
            self.assertEqual(told_parts(net), before)

    def test_right_net(self):
        pieces = right_parts()["pieces"]
        for piece, wire in ((0, ("wire", 0, 2)), (2, ("wire", 2, 3)), (4, ("wire", 0, 4))):
            net = net_of(right_parts())
            made = changed_parts({"pieces": pieces[:piece] + [wire] + pieces[piece + 1:]})
            self.assertEqual(told_parts(stuck_net(net, piece, "made")), made)
            without = changed_parts({"pieces": pieces[:piece] + pieces[piece + 1:]})
            self.assertEqual(told_parts(stuck_net(net, piece, "open")), without)

    def test_what_each_kind_joins(self):
        """Lamps at b and c of one contact from plus: made b alone has current, whatever the key; open none has."""
        for contact in (("made", "k", 0, 2), ("broken", "k", 0, 2), ("swap", "k", 0, 2, 3)):
            net = Net(["k"], [], ["b", "c"], 4, [contact, ("lamp", "b", 2, 1), ("lamp", "c", 3, 1)], [])
            for position in positions(net):
                self.assertEqual(current(stuck_net(net, 0, "made"), position), ((), (1, 0)))
                self.assertEqual(current(stuck_net(net, 0, "open"), position), ((), (0, 0)))

    def test_a_contact_between_like_ones(self):
        """Just the one of that number is stuck."""
        contact = ("made", "k", 0, 2)
        net = Net(["k"], ["r"], [], 3, [contact, contact, ("coil", "r", 2, 1), contact], [TIMES])
        for piece in (0, 1, 3):
            pieces = net.pieces()
            pieces[piece] = ("wire", 0, 2)
            self.assertEqual(stuck_net(net, piece, "made").pieces(), pieces)
            self.assertEqual(stuck_net(net, piece, "open").pieces(), pieces[:piece] + pieces[piece + 1:])

    def test_greatest_net(self):
        net = greatest_net()
        self.assertEqual(len(stuck_net(net, 799, "made").pieces()), 800)
        self.assertEqual(len(stuck_net(net, 799, "open").pieces()), 799)
        refusal(self, "NoPiece", stuck_net, net, 800, "made")


class RefusalsTest(unittest.TestCase):

    def test_no_piece(self):
        net = net_of(right_parts())
        for word in WORDS:
            for piece in (-1, -2, -5, -9, -10, 9, 10, 99, 10 ** 20, -10 ** 20):
                refusal(self, "NoPiece", stuck_net, net, piece, word)

    def test_pieces_that_are_no_contacts(self):
        net = net_of(right_parts())
        for piece in set(range(9)) - set(contacts_of(net)):
            for word in WORDS:
                refusal(self, "NoPiece", stuck_net, net, piece, word)
        self.assertEqual(contacts_of(net), [0, 1, 2, 4])

    def test_without_pieces(self):
        for piece in (-1, 0, 1):
            refusal(self, "NoPiece", stuck_net, Net([], [], [], 2, [], []), piece, "open")


class OwnListsTest(unittest.TestCase):

    def test_nets_do_not_hang_together(self):
        net = net_of(right_parts())
        told = stuck_net(net, 4, "made")
        copy = told_parts(told)
        for name in PARTS:
            if name != "nodes":
                told_parts(net)[name].clear()
                told_parts(told)[name].clear()
        self.assertEqual(told_parts(net), right_parts())
        self.assertEqual(told_parts(told), copy)
        self.assertEqual(told_parts(stuck_net(net_of(right_parts()), 4, "made")), copy)
