import itertools
import random
import unittest

from relayholds.nets import Net
from relayholds.presses import behind, least_press
from tests.examples import (
    ALL_BOUNDS, follower, four_buzzers, greatest_net, lively_net, net_of, refusal, right_parts, told_parts,
    two_followers,
)
from tests.reckoning import Player, all_bits, positions


def reckoned_behind(player, state, going):
    found = {state}
    for pressed, ticks in going:
        found = {player.pressed_anew(at, pressed) for at in found}
        for _ in range(ticks):
            found = {other for at in found for other in player.nexts(at)}
    return sorted(found)


class BehindTest(unittest.TestCase):

    def test_goings_of_many_nets(self):
        for seed in range(60):
            net = lively_net(seed, 1 + seed % 3)
            player, chance = Player(net), random.Random(seed)
            keys, states = all_bits(len(net.key_words())), list(player.states())
            for _ in range(8):
                state = chance.choice(states)
                going = [(chance.choice(keys), chance.randrange(1, 7)) for _ in range(chance.randrange(1, 5))]
                told = behind(net, state, going)
                self.assertEqual(told, reckoned_behind(player, state, going))
                self.assertIs(type(told), list)
                self.assertEqual(told, sorted(set(told)))

    def test_one_tick(self):
        net = follower((1, 2, 3, 4))
        self.assertEqual(behind(net, ((0,), (0,), (0,)), [((1,), 1)]), [((1,), (0,), (1,)), ((1,), (1,), (0,))])
        self.assertEqual(behind(net, ((0,), (0,), (0,)), [((1,), 2)]), [((1,), (1,), (0,))])
        self.assertEqual(behind(net, ((0,), (0,), (0,)), [((0,), 6)]), [((0,), (0,), (0,))])

    def test_keys_one_behind_another(self):
        net = follower((2, 2, 3, 4))
        state = ((0,), (0,), (0,))
        self.assertEqual(behind(net, state, [((1,), 1), ((0,), 1), ((1,), 1)]), [((1,), (0,), (1,))])
        self.assertEqual(behind(net, state, [((1,), 1), ((1,), 1)]), [((1,), (1,), (0,))])
        self.assertEqual(behind(net, state, [((1,), 2), ((0,), 2)]), [((0,), (1,), (2,))])
        self.assertEqual(behind(net, state, [((1,), 2), ((0,), 3)]), [((0,), (0,), (0,)), ((0,), (1,), (3,))])
        self.assertEqual(behind(net, state, [((1,), 6), ((0,), 6), ((1,), 6), ((0,), 3)]),
                         [((0,), (0,), (0,)), ((0,), (1,), (3,))])

    def test_from_a_state_that_is_not_at_rest(self):
        net = follower((4, 4, 1, 1))
        self.assertEqual(behind(net, ((1,), (0,), (2,)), [((1,), 1)]), [((1,), (0,), (3,))])
        self.assertEqual(behind(net, ((1,), (0,), (2,)), [((1,), 2)]), [((1,), (1,), (0,))])
        self.assertEqual(behind(net, ((1,), (0,), (2,)), [((0,), 1), ((1,), 1)]), [((1,), (0,), (1,))])

    def test_longest_going_with_as_many_states_as_there_can_be(self):
        told = behind(four_buzzers(), ((), (0,) * 4, (0,) * 4), [((), 6)] * 4)
        self.assertEqual(len(told), 8 ** 4)
        self.assertEqual(told, sorted(set(told)))

    def test_without_relays(self):
        net = Net(["k"], [], [], 2, [], [])
        self.assertEqual(behind(net, ((0,), (), ()), [((1,), 3)]), [((1,), (), ())])


class LeastPressTest(unittest.TestCase):

    def assert_least(self, net, player, state, pressed):
        told = least_press(net, state, pressed)
        ticks = [many for many in range(1, 7)
                 if any(at[1] != state[1] for at in reckoned_behind(player, state, [(pressed, many)]))]
        self.assertEqual(told, ticks[0] if ticks else None)
        for many in range(1, told if told else 7):
            self.assertEqual({at[1] for at in behind(net, state, [(pressed, many)])}, {state[1]})
            for more in (1, 6):
                self.assertEqual(behind(net, state, [(pressed, many), (state[0], more)]), [state])

    def test_rests_of_many_nets(self):
        for seed in range(60):
            net = lively_net(seed)
            player = Player(net)
            for position in positions(net):
                state = position + ((0,) * len(net.relays()),)
                for pressed in all_bits(len(net.key_words())):
                    if player.rests(state):
                        self.assert_least(net, player, state, pressed)
                    else:
                        refusal(self, "NotResting", least_press, net, state, pressed)

    def test_all_times(self):
        for pull, fall in itertools.product(ALL_BOUNDS, repeat=2):
            net = follower(pull + fall)
            self.assertEqual(least_press(net, ((0,), (0,), (0,)), (1,)), pull[0])
            self.assertEqual(least_press(net, ((1,), (1,), (0,)), (0,)), fall[0])
            for bit in (0, 1):
                self.assertIsNone(least_press(net, ((bit,), (bit,), (0,)), (bit,)))

    def test_least_of_those_called(self):
        for one, other in itertools.product(ALL_BOUNDS, repeat=2):
            net = two_followers([one + (1, 1), other + (1, 1)])
            self.assertEqual(least_press(net, ((0,), (0, 0), (0, 0)), (1,)), min(one[0], other[0]))

    def test_who_is_not_called_does_not_count(self):
        pieces = [("made", "k", 0, 2), ("coil", "a", 2, 1), ("made", "j", 0, 3), ("coil", "b", 3, 1)]
        net = Net(["k", "j"], ["a", "b"], [], 4, pieces, [(3, 4, 2, 2), (1, 1, 4, 4)])
        self.assertEqual(least_press(net, ((0, 0), (0, 0), (0, 0)), (1, 0)), 3)
        self.assertEqual(least_press(net, ((0, 0), (0, 0), (0, 0)), (1, 1)), 1)
        self.assertEqual(least_press(net, ((1, 1), (1, 1), (0, 0)), (1, 0)), 4)
        self.assertEqual(least_press(net, ((0, 1), (0, 1), (0, 0)), (1, 0)), 3)

    def test_without_relays(self):
        self.assertIsNone(least_press(Net(["k"], [], [], 2, [], []), ((0,), (), ()), (1,)))

    def test_greatest_net(self):
        """None of its coils ever has current, so it rests where nobody is pulled, whatever the keys."""
        net = greatest_net()
        for pressed, keys in itertools.product(all_bits(2), repeat=2):
            self.assertIsNone(least_press(net, (pressed, (0,) * 4, (0,) * 4), keys))
            refusal(self, "NotResting", least_press, net, (pressed, (0, 1, 0, 0), (0,) * 4), keys)


class RefusalsTest(unittest.TestCase):

    WRONG_KEYS = ((), (0,), (0, 0, 0), (2, 0), (0, -1))
    REST = ((0, 0), (0, 0), (0, 0))
    MOVING = ((1, 0), (0, 0), (1, 0))
    NONE = ((0, 0), (0, 0), (0, 1))

    def functions(self):
        return (lambda net, state: behind(net, state, [((0, 0), 1)]),
                lambda net, state: least_press(net, state, (0, 0)))

    def test_no_position(self):
        net = net_of(right_parts())
        for pressed, pulled in (((0,), (0, 0)), ((0, 0), (0,)), ((0, 2), (0, 0)), ((0, 0), (0, -1)), ((), ())):
            for function, counts in itertools.product(self.functions(), ((0, 0), (), (9, 9))):
                refusal(self, "NoPosition", function, net, (pressed, pulled, counts))

    def test_no_position_of_keys(self):
        """Whichever of the goings has wrong keys, and whatever the state."""
        net = net_of(right_parts())
        for keys, state in itertools.product(self.WRONG_KEYS, (self.REST, self.MOVING, self.NONE)):
            refusal(self, "NoPosition", least_press, net, state, keys)
            for at in range(4):
                going = [((1, 0), 1)] * 4
                going[at] = (keys, 2)
                refusal(self, "NoPosition", behind, net, state, going)
                refusal(self, "NoPosition", behind, net, state, going[:at + 1])

    def test_no_state(self):
        net = net_of(right_parts())
        for counts in ((), (0,), (0, 0, 0), (1, 0), (0, 1), (-1, 0)):
            for function in self.functions():
                refusal(self, "NoState", function, net, ((0, 0), (0, 0), counts))
        refusal(self, "NoState", least_press, net, ((1, 0), (0, 0), (2, 0)), (1, 0))

    def test_not_resting(self):
        net = net_of(right_parts())
        for keys in all_bits(2):
            refusal(self, "NotResting", least_press, net, self.MOVING, keys)
            refusal(self, "NotResting", least_press, net, ((1, 0), (0, 0), (0, 0)), keys)
        self.assertEqual(least_press(net, self.REST, (1, 0)), 1)


class OwnListsTest(unittest.TestCase):

    def test_lists_stay_and_are_the_askers_own(self):
        net = follower((1, 2, 3, 4))
        going = [((1,), 1), ((1,), 1)]
        told = behind(net, ((0,), (0,), (0,)), going)
        self.assertEqual(going, [((1,), 1), ((1,), 1)])
        copy = list(told)
        told.clear()
        self.assertEqual(behind(net, ((0,), (0,), (0,)), going), copy)
        self.assertEqual(told_parts(net), told_parts(follower((1, 2, 3, 4))))
