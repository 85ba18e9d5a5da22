import itertools
import unittest

from relayholds.nets import Net
from relayholds.ticks import called, is_rest, nexts, pressed_anew, state_of
from tests.examples import (
    ALL_BOUNDS, follower, greatest_net, lively_net, net_of, random_net, refusal, right_parts, told_parts, two_followers,
)
from tests.reckoning import Player, all_bits, positions

WRONG_POSITIONS = (
    ((0,), (0, 0)), ((0, 0, 0), (0, 0)), ((0, 0), (0,)), ((0, 0), (0, 0, 0)), ((2, 0), (0, 0)), ((0, -1), (0, 0)),
    ((0, 0), (0, 2)), ((0, 0), (-1, 0)), ((), ()), ((0, 0), ()), ((), (0, 0)), ((0, 0), (0, 10 ** 20)),
)


class CalledTest(unittest.TestCase):

    def test_all_positions_of_many_nets(self):
        for net in [random_net(seed) for seed in range(60)] + [lively_net(seed) for seed in range(60)]:
            player = Player(net)
            for position in positions(net):
                told = called(net, position)
                self.assertEqual(told, player.called(position))
                self.assertEqual((type(told), {type(bit) for bit in told} - {int}), (tuple, set()))

    def test_follower(self):
        net = follower((1, 1, 1, 1))
        told = {position: called(net, position) for position in positions(net)}
        self.assertEqual(told, {((0,), (0,)): (0,), ((0,), (1,)): (1,), ((1,), (0,)): (1,), ((1,), (1,)): (0,)})

    def test_without_relays(self):
        self.assertEqual(called(Net(["k"], [], [], 2, [], []), ((1,), ())), ())


class StateOfTest(unittest.TestCase):

    def test_all_counts_are_0(self):
        for keys, relays in itertools.product(range(3), range(5)):
            for pressed, pulled in itertools.product(all_bits(keys), all_bits(relays)):
                self.assertEqual(state_of((pressed, pulled)), (pressed, pulled, (0,) * relays))

    def test_what_no_net_has_as_a_position(self):
        for position in (((2,), (0,)), ((0,), (2,)), ((-1, 0), ()), ((), (0, 0, 0, 7)), ((0, 0, 0), ()), ((), (0,) * 5)):
            refusal(self, "NoPosition", state_of, position)


class NextsTest(unittest.TestCase):

    def assert_as_reckoned(self, net):
        player = Player(net)
        for state in player.states():
            told = nexts(net, state)
            self.assertEqual(told, player.nexts(state), (net.times(), state))
            self.assertIs(type(told), list)
            self.assertEqual(told, sorted(set(told)))
            self.assertTrue(all(player.is_state(other) for other in told))
            self.assertIs(is_rest(net, state), player.rests(state))
            if player.rests(state):
                self.assertEqual(told, [state])
            else:
                self.assertNotIn(state, told)

    def test_all_states_of_many_nets(self):
        for seed in range(25):
            self.assert_as_reckoned(random_net(seed))
        for seed in range(40):
            self.assert_as_reckoned(lively_net(seed, 1 + seed % 3))

    def test_four_relays(self):
        """Too many states to look at each: those behind a few ticks."""
        for seed in range(12):
            net = lively_net(seed, 4)
            player = Player(net)
            for position in list(positions(net))[::5]:
                state = state_of(position)
                for _ in range(4):
                    told = nexts(net, state)
                    self.assertEqual(told, player.nexts(state))
                    state = told[len(told) // 2]

    def test_all_times_of_one_relay(self):
        for pull, fall in itertools.product(ALL_BOUNDS, repeat=2):
            net = follower(pull + fall)
            for bit, (least, most) in ((0, pull), (1, fall)):
                key = 1 - bit
                for count in range(most):
                    told = nexts(net, ((key,), (bit,), (count,)))
                    reckoned = []
                    if count + 1 < most:
                        reckoned.append(((key,), (bit,), (count + 1,)))
                    if count + 1 >= least:
                        reckoned.append(((key,), (1 - bit,), (0,)))
                    self.assertEqual(told, sorted(reckoned))

    def test_some_of_those_that_may(self):
        net = two_followers([(1, 3, 1, 1), (1, 2, 1, 1)])
        self.assertEqual(nexts(net, ((1,), (0, 0), (0, 0))), [
            ((1,), (0, 0), (1, 1)), ((1,), (0, 1), (1, 0)), ((1,), (1, 0), (0, 1)), ((1,), (1, 1), (0, 0))])
        self.assertEqual(nexts(net, ((1,), (0, 0), (1, 1))), [((1,), (0, 1), (2, 0)), ((1,), (1, 1), (0, 0))])
        self.assertEqual(nexts(net, ((1,), (0, 0), (2, 0))), [((1,), (1, 0), (0, 1)), ((1,), (1, 1), (0, 0))])
        self.assertEqual(nexts(net, ((1,), (0, 0), (2, 1))), [((1,), (1, 1), (0, 0))])

    def test_who_is_not_called_any_more_counts_anew(self):
        """The relay b is called only while a is not pulled."""
        pieces = [("made", "k", 0, 2), ("coil", "a", 2, 1), ("broken", "a", 2, 3), ("coil", "b", 3, 1)]
        net = Net(["k"], ["a", "b"], [], 4, pieces, [(2, 3, 1, 1), (4, 4, 2, 2)])
        self.assertEqual(nexts(net, ((1,), (0, 0), (1, 1))), [((1,), (0, 0), (2, 2)), ((1,), (1, 0), (0, 0))])
        self.assertIs(is_rest(net, ((1,), (1, 0), (0, 0))), True)

    def test_who_is_called_by_a_change_begins_at_0(self):
        pieces = [("wire", 0, 2), ("coil", "a", 2, 1), ("made", "a", 2, 3), ("coil", "b", 3, 1)]
        net = Net([], ["a", "b"], [], 4, pieces, [(1, 1, 1, 1), (2, 2, 1, 1)])
        self.assertEqual(nexts(net, ((), (0, 0), (0, 0))), [((), (1, 0), (0, 0))])
        self.assertEqual(nexts(net, ((), (1, 0), (0, 0))), [((), (1, 0), (0, 1))])
        self.assertEqual(nexts(net, ((), (1, 0), (0, 1))), [((), (1, 1), (0, 0))])

    def test_who_changed_and_is_called_again_begins_at_0(self):
        net = Net([], ["r"], [], 3, [("broken", "r", 0, 2), ("coil", "r", 2, 1)], [(2, 2, 3, 3)])
        self.assertEqual(nexts(net, ((), (0,), (1,))), [((), (1,), (0,))])
        self.assertEqual(nexts(net, ((), (1,), (2,))), [((), (0,), (0,))])

    def test_at_rest_nothing_changes(self):
        net = follower((1, 4, 1, 4))
        for bit in (0, 1):
            state = ((bit,), (bit,), (0,))
            self.assertIs(is_rest(net, state), True)
            self.assertEqual(nexts(net, state), [state])
        without = Net(["k"], [], [], 2, [], [])
        self.assertEqual(nexts(without, ((1,), (), ())), [((1,), (), ())])
        self.assertIs(is_rest(without, ((0,), (), ())), True)

    def test_greatest_net(self):
        net = greatest_net()
        player_states = [state_of(position) for position in list(positions(net))[::21]]
        for state in player_states:
            for other in nexts(net, state):
                self.assertEqual(other[0], state[0])
                self.assertIsInstance(is_rest(net, other), bool)


class PressedAnewTest(unittest.TestCase):

    def test_all_states_of_many_nets(self):
        nets = [random_net(seed) for seed in range(25)] + [lively_net(seed, 1 + seed % 3) for seed in range(25)]
        for net in nets:
            player = Player(net)
            keys = all_bits(len(net.key_words()))
            for state in list(player.states())[:400]:
                for pressed in keys:
                    told = pressed_anew(net, state, pressed)
                    self.assertEqual(told, player.pressed_anew(state, pressed))
                    self.assertTrue(player.is_state(told))

    def test_still_called_keeps_its_count(self):
        """Either key calls the relay: going over from one to the other is no break."""
        pieces = [("made", "k", 0, 2), ("made", "j", 0, 2), ("coil", "r", 2, 1)]
        net = Net(["k", "j"], ["r"], [], 3, pieces, [(4, 4, 4, 4)])
        for pressed in ((0, 1), (1, 1), (1, 0)):
            self.assertEqual(pressed_anew(net, ((1, 0), (0,), (3,)), pressed), (pressed, (0,), (3,)))
        self.assertEqual(pressed_anew(net, ((1, 0), (0,), (3,)), (0, 0)), ((0, 0), (0,), (0,)))
        self.assertEqual(pressed_anew(net, ((0, 0), (1,), (2,)), (0, 0)), ((0, 0), (1,), (2,)))
        self.assertEqual(pressed_anew(net, ((0, 0), (1,), (2,)), (1, 1)), ((1, 1), (1,), (0,)))

    def test_a_break_begins_anew(self):
        net = follower((3, 3, 1, 1))
        broken = pressed_anew(net, ((1,), (0,), (2,)), (0,))
        self.assertEqual(broken, ((0,), (0,), (0,)))
        self.assertEqual(pressed_anew(net, broken, (1,)), ((1,), (0,), (0,)))

    def test_one_of_two_keeps_its_count(self):
        pieces = [("made", "k", 0, 2), ("coil", "a", 2, 1), ("made", "j", 0, 3), ("coil", "b", 3, 1)]
        net = Net(["k", "j"], ["a", "b"], [], 4, pieces, [(4, 4, 1, 1), (4, 4, 1, 1)])
        self.assertEqual(pressed_anew(net, ((1, 1), (0, 0), (1, 2)), (0, 1)), ((0, 1), (0, 0), (0, 2)))


class RefusalsTest(unittest.TestCase):

    def functions(self):
        return (is_rest, nexts, lambda net, state: pressed_anew(net, state, (0, 0)))

    def test_no_position(self):
        net = net_of(right_parts())
        for position in WRONG_POSITIONS:
            refusal(self, "NoPosition", called, net, position)
            for function in self.functions():
                refusal(self, "NoPosition", function, net, position + ((0, 0),))

    def test_no_position_of_keys_pressed_anew(self):
        net = net_of(right_parts())
        for pressed in ((), (0,), (0, 0, 0), (2, 0), (0, -1), (0, 5)):
            refusal(self, "NoPosition", pressed_anew, net, ((0, 0), (0, 0), (0, 0)), pressed)

    def test_no_position_ahead_of_no_state(self):
        net = net_of(right_parts())
        for position, counts in itertools.product(WRONG_POSITIONS, ((), (9, 9), (0, 0, 0), (-1, 0))):
            for function in self.functions():
                refusal(self, "NoPosition", function, net, position + (counts,))
        for counts in ((), (0,), (5, 0), (0, -1), (0, 0, 0)):
            refusal(self, "NoPosition", pressed_anew, net, ((0, 0), (0, 0), counts), (0,))
            refusal(self, "NoState", pressed_anew, net, ((0, 0), (0, 0), counts), (0, 1))

    def test_all_counts(self):
        """States are just those by the words of the document, of small counts and of others."""
        nets = [lively_net(seed, 1 + seed % 2) for seed in range(12)] + [net_of(right_parts())]
        for net in nets:
            player = Player(net)
            none_pressed = (0,) * len(net.key_words())
            counts_tried = list(itertools.product(range(-1, 6), repeat=len(net.relays())))
            for position, counts in itertools.product(positions(net), counts_tried):
                state = position + (counts,)
                if player.is_state(state):
                    self.assertEqual(is_rest(net, state), player.rests(state))
                else:
                    refusal(self, "NoState", is_rest, net, state)
                    refusal(self, "NoState", nexts, net, state)
                    refusal(self, "NoState", pressed_anew, net, state, none_pressed)

    def test_counts_for_other_relays(self):
        net = follower((4, 4, 4, 4))
        for counts in ((), (0, 0), (0, 0, 0, 0, 0)):
            for function in (is_rest, nexts):
                refusal(self, "NoState", function, net, ((0,), (0,), counts))
        refusal(self, "NoState", nexts, Net([], [], [], 2, [], []), ((), (), (0,)))

    def test_counts_at_their_bounds(self):
        for pull, fall in itertools.product(ALL_BOUNDS, repeat=2):
            net = follower(pull + fall)
            for bit, (least, most) in ((0, pull), (1, fall)):
                for count in (-1, most, most + 1, 10 ** 20):
                    refusal(self, "NoState", nexts, net, ((1 - bit,), (bit,), (count,)))
                self.assertIs(is_rest(net, ((1 - bit,), (bit,), (most - 1,))), False)
                refusal(self, "NoState", is_rest, net, ((bit,), (bit,), (1,)))


class OwnListsTest(unittest.TestCase):

    def test_told_list_is_the_askers_own(self):
        net = two_followers([(1, 3, 1, 1), (1, 2, 1, 1)])
        state = ((1,), (0, 0), (0, 0))
        told = nexts(net, state)
        copy = list(told)
        told.clear()
        self.assertEqual(nexts(net, state), copy)
        refusal(self, "NoState", nexts, net, ((1,), (0, 0), (3, 0)))
        self.assertEqual(nexts(net, state), copy)

    def test_what_is_handed_in_stays(self):
        parts = right_parts()
        net = net_of(parts)
        state = ((1, 0), (0, 0), (0, 0))
        before = (called(net, state[:2]), nexts(net, state), pressed_anew(net, state, (1, 1)))
        for name in ("keys", "relays", "lamps", "pieces", "times"):
            parts[name].clear()
        self.assertEqual((called(net, state[:2]), nexts(net, state), pressed_anew(net, state, (1, 1))), before)
        self.assertEqual(told_parts(net), right_parts())
