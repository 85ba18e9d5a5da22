import itertools
import unittest

from relayholds.current import current
from relayholds.holding import holds, keepers
from relayholds.nets import Net
from tests.examples import (
    TIMES, chains, greatest_net, lively_net, net_of, random_net, refusal, right_parts, told_parts,
)
from tests.reckoning import net_without, positions, reach_table, reckoned_current

CONTACTS = ("made", "broken", "swap")


def has_current(net, position, relay):
    return reckoned_current(net, reach_table(net, position), "coil", [relay]) == (1,)


class HoldingCase(unittest.TestCase):

    def reckoned_holds(self, net, position, relay):
        pulled = dict(zip(net.relays(), position[1]))
        if pulled[relay] == 0 or not has_current(net, position, relay):
            return False
        own = [at for at, piece in enumerate(net.pieces()) if piece[:2] in (("made", relay), ("swap", relay))]
        return not has_current(net_without(net, own), position, relay)

    def reckoned_keepers(self, net, position, relay):
        if not has_current(net, position, relay):
            return []
        return [at for at, piece in enumerate(net.pieces())
                if piece[0] in CONTACTS and not has_current(net_without(net, [at]), position, relay)]

    def assert_as_reckoned(self, net):
        for position, relay in itertools.product(positions(net), net.relays()):
            self.assertIs(holds(net, position, relay), self.reckoned_holds(net, position, relay))
            told = keepers(net, position, relay)
            self.assertEqual(told, self.reckoned_keepers(net, position, relay))
            self.assertIs(type(told), list)


class SmallNetsTest(HoldingCase):

    def test_all_positions_of_many_nets(self):
        for seed in range(40):
            self.assert_as_reckoned(random_net(seed))
        for seed in range(30):
            self.assert_as_reckoned(lively_net(seed, 1 + seed % 3))
        for seed in range(2):
            self.assert_as_reckoned(lively_net(seed, 4))

    def test_right_net(self):
        net = net_of(right_parts())
        self.assertIs(holds(net, ((0, 0), (1, 0)), "one"), True)
        self.assertIs(holds(net, ((1, 0), (1, 0)), "one"), False)
        self.assertIs(holds(net, ((1, 0), (0, 0)), "one"), False)
        self.assertIs(holds(net, ((0, 1), (1, 0)), "one"), False)
        self.assertIs(holds(net, ((0, 0), (1, 1)), "other"), False)
        self.assertEqual(keepers(net, ((0, 0), (1, 0)), "one"), [1, 2])
        self.assertEqual(keepers(net, ((1, 0), (1, 0)), "one"), [2])
        self.assertEqual(keepers(net, ((1, 0), (0, 0)), "one"), [0, 2])
        self.assertEqual(keepers(net, ((0, 1), (1, 0)), "one"), [])
        self.assertEqual(keepers(net, ((0, 0), (1, 0)), "other"), [4])
        self.assert_as_reckoned(net)

    def test_two_own_contacts_beside_one_another(self):
        """Neither alone keeps it, but both of them hold it."""
        pieces = [("made", "r", 0, 2), ("swap", "r", 2, 0, 3), ("coil", "r", 2, 1)]
        net = Net([], ["r"], [], 4, pieces, [TIMES])
        self.assertIs(holds(net, ((), (1,)), "r"), True)
        self.assertEqual(keepers(net, ((), (1,)), "r"), [])

    def test_held_over_a_swap(self):
        for ends, held in (((0, 2, 3), True), ((2, 0, 3), True), ((0, 3, 2), False), ((2, 3, 0), False)):
            net = Net([], ["r"], [], 4, [("swap", "r") + ends, ("coil", "r", 2, 1)], [TIMES])
            self.assertIs(holds(net, ((), (1,)), "r"), held)
            self.assertIs(holds(net, ((), (0,)), "r"), False)
            self.assertEqual(keepers(net, ((), (1,)), "r"), [0] if held else [])
            self.assertEqual(keepers(net, ((), (0,)), "r"), [] if held else [0])

    def test_held_on_the_way_to_minus(self):
        net = Net([], ["r"], [], 3, [("coil", "r", 0, 2), ("made", "r", 2, 1)], [TIMES])
        self.assertIs(holds(net, ((), (1,)), "r"), True)
        self.assertEqual(keepers(net, ((), (1,)), "r"), [1])

    def test_contacts_of_another_relay_hold_nothing(self):
        pieces = [("made", "b", 0, 2), ("coil", "a", 2, 1), ("made", "a", 0, 3), ("coil", "b", 3, 1)]
        net = Net([], ["a", "b"], [], 4, pieces, [TIMES] * 2)
        for relay, number in (("a", 0), ("b", 2)):
            self.assertIs(holds(net, ((), (1, 1)), relay), False)
            self.assertEqual(keepers(net, ((), (1, 1)), relay), [number])

    def test_own_broken_contact_holds_nothing(self):
        net = Net([], ["r"], [], 3, [("broken", "r", 0, 2), ("wire", 2, 0), ("coil", "r", 2, 1)], [TIMES])
        for bit in (0, 1):
            self.assertIs(holds(net, ((), (bit,)), "r"), False)
            self.assertEqual(keepers(net, ((), (bit,)), "r"), [])

    def test_wires_are_no_keepers(self):
        net = Net(["k"], ["r"], [], 4, [("wire", 0, 2), ("broken", "k", 2, 3), ("coil", "r", 3, 1)], [TIMES])
        self.assertEqual(keepers(net, ((0,), (0,)), "r"), [1])
        self.assertEqual(keepers(net, ((1,), (0,)), "r"), [])

    def test_short(self):
        net = Net([], ["r"], [], 2, [("made", "r", 0, 1), ("coil", "r", 0, 1)], [TIMES])
        self.assertIs(holds(net, ((), (1,)), "r"), False)
        self.assertEqual(keepers(net, ((), (1,)), "r"), [])
        self.assertEqual(keepers(net, ((), (0,)), "r"), [])


class ChainsTest(HoldingCase):

    def test_chains_over_all_nodes(self):
        for chain in chains()[::2]:
            steps = list(zip(chain, chain[1:]))
            words = [("wire",), ("made", "k"), ("broken", "j"), ("made", "r")]
            pieces = [words[at % 4] + step for at, step in enumerate(steps)]
            pieces[500] = ("coil", "r") + steps[500]
            net = Net(["k", "j"], ["r"], [], 640, pieces, [TIMES])
            position = ((1, 0), (1,))
            self.assertIs(holds(net, position, "r"), True)
            kept = [at for at, piece in enumerate(pieces) if piece[0] in CONTACTS]
            self.assertEqual(keepers(net, position, "r"), kept)
            beside = Net(["k", "j"], ["r"], [], 640, pieces + [("broken", "j", chain[100], chain[400])], [TIMES])
            kept = [at for at in kept if not 100 <= at < 400]
            self.assertEqual(keepers(beside, position, "r"), kept)

    def test_greatest_net(self):
        net = greatest_net()
        for position in (((0, 0), (0, 0, 0, 0)), ((1, 1), (1, 1, 1, 1))):
            for relay, bit in zip(net.relays(), current(net, position)[0]):
                self.assertIsInstance(holds(net, position, relay), bool)
                if not bit:
                    self.assertEqual(keepers(net, position, relay), [])


class RefusalsTest(HoldingCase):

    WRONG = (((0,), (0, 0)), ((0, 0), (0, 0, 0)), ((0, 2), (0, 0)), ((0, 0), (-1, 0)), ((), ()))

    def test_no_name(self):
        net = net_of(right_parts())
        for name in ("set", "reset", "red", "green", "", "none", "One", "other ", "x" * 30, "\n"):
            for function, position in itertools.product((holds, keepers), (((0, 0), (0, 0)), ((1, 1), (1, 1)))):
                refusal(self, "NoName", function, net, position, name)

    def test_no_position(self):
        net = net_of(right_parts())
        for position, relay, function in itertools.product(self.WRONG, ("one", "other"), (holds, keepers)):
            refusal(self, "NoPosition", function, net, position, relay)

    def test_no_name_ahead_of_no_position(self):
        net = net_of(right_parts())
        for position, name, function in itertools.product(self.WRONG, ("red", "set", "", "none"), (holds, keepers)):
            refusal(self, "NoName", function, net, position, name)


class OwnListsTest(HoldingCase):

    def test_told_list_is_the_askers_own(self):
        net, position = net_of(right_parts()), ((0, 0), (1, 0))
        keepers(net, position, "one").clear()
        self.assertEqual(keepers(net, position, "one"), [1, 2])
        keepers(net, ((0, 1), (1, 0)), "one").append(7)
        self.assertEqual(keepers(net, ((0, 1), (1, 0)), "one"), [])
        self.assertIs(holds(net, position, "one"), True)
        self.assertEqual(told_parts(net), right_parts())
