import itertools
import unittest

from relayholds.ends import ends, run_to
from relayholds.nets import Net
from relayholds.ticks import nexts, state_of
from tests.examples import (
    SLOWEST, buzzer, four_buzzers, greatest_net, lively_net, net_of, random_net, refusal, right_parts, rivals,
    told_parts,
)
from tests.reckoning import Player, all_bits, play_with_times, positions


class EndsCase(unittest.TestCase):

    def assert_is_round(self, player, state, told):
        self.assertIs(type(told), list)
        self.assertGreaterEqual(len(told), 1)
        self.assertIn(told[0], player.reached(state))
        for one, other in zip(told, told[1:] + told[:1]):
            self.assertFalse(player.rests(one))
            self.assertIn(other, player.nexts(one))

    def assert_ends(self, net, player, state):
        told = ends(net, state)
        self.assertEqual((type(told), type(told[0])), (tuple, list))
        rests, has_round = player.ends_and_whether_round(state)
        self.assertEqual(told[0], rests)
        if has_round:
            self.assert_is_round(player, state, told[1])
        else:
            self.assertIsNone(told[1])
        self.assertTrue(told[0] or told[1])

    def assert_runs(self, net, player, state):
        levels = list(player.levels(state))
        for pulled in all_bits(len(net.relays())):
            ticks = [at for at, level in enumerate(levels)
                     if any(player.rests(other) and other[1] == pulled for other in level)]
            run = run_to(net, state, pulled)
            if not ticks:
                self.assertIsNone(run)
                continue
            self.assertIs(type(run), list)
            self.assertEqual(len(run), ticks[0] + 1)
            self.assertEqual((run[0], run[-1][1], player.rests(run[-1])), (state, pulled, True))
            for one, other in zip(run, run[1:]):
                self.assertIn(other, player.nexts(one))

    def assert_as_reckoned(self, net, most=30):
        player = Player(net)
        states = list(player.states())
        for state in states[::1 + len(states) // most]:
            self.assert_ends(net, player, state)
            self.assert_runs(net, player, state)


class ManyNetsTest(EndsCase):

    def test_many_nets(self):
        for seed in range(30):
            self.assert_as_reckoned(random_net(seed))
        for seed in range(60):
            self.assert_as_reckoned(lively_net(seed, 1 + seed % 3))

    def test_four_relays(self):
        for seed in range(25):
            self.assert_as_reckoned(lively_net(seed, 4), 6)

    def test_all_states_of_rivals_and_buzzers(self):
        for times in ([(1, 2, 1, 1), (2, 3, 1, 2)], [(1, 1, 1, 1)] * 2, [SLOWEST, (2, 2, 3, 4)]):
            self.assert_as_reckoned(rivals(times), 10 ** 6)
        for times in ((1, 1, 1, 1), SLOWEST, (2, 3, 1, 4)):
            self.assert_as_reckoned(buzzer(times), 10 ** 6)

    def test_ends_are_those_to_which_fixed_times_lead(self):
        """Each end with fixed times is told; where they never come to rest, a round is."""
        for seed in range(40):
            net = lively_net(seed, 1 + seed % 3)
            player = Player(net)
            choices = [[(pull, fall) for pull in range(p, q + 1) for fall in range(f, g + 1)]
                       for p, q, f, g in net.times()]
            for position in list(positions(net))[::3]:
                state = state_of(position)
                rests, told_round = ends(net, state)
                for delays in list(itertools.product(*choices))[::7]:
                    rest = play_with_times(player, state, delays)
                    if rest is None:
                        self.assertIsNotNone(told_round)
                    else:
                        self.assertIn(rest, rests)


class SmallNetsTest(EndsCase):

    def test_at_rest_itself(self):
        net = buzzer(SLOWEST)
        state = ((0,), (0,), (0,))
        self.assertEqual(ends(net, state), ([(0,)], None))
        self.assertEqual(run_to(net, state, (0,)), [state])
        self.assertIsNone(run_to(net, state, (1,)))

    def test_without_relays(self):
        net = Net(["k"], [], [], 2, [], [])
        self.assertEqual(ends(net, ((1,), (), ())), ([()], None))
        self.assertEqual(run_to(net, ((1,), (), ()), ()), [((1,), (), ())])

    def test_buzzer_goes_round(self):
        net = buzzer((1, 1, 1, 1))
        rests, told = ends(net, ((1,), (0,), (0,)))
        self.assertEqual(rests, [])
        self.assertEqual(sorted(told), [((1,), (0,), (0,)), ((1,), (1,), (0,))])
        self.assertIsNone(run_to(net, ((1,), (0,), (0,)), (0,)))
        self.assertIsNone(run_to(net, ((1,), (0,), (0,)), (1,)))

    def test_rivals_end_as_their_times_are(self):
        state = ((1,), (0, 0), (0, 0))
        for times, rests in (
            ([(1, 1, 1, 1), (2, 2, 1, 1)], [(1, 0)]),
            ([(2, 4, 1, 1), (1, 1, 1, 1)], [(0, 1)]),
            ([(1, 2, 1, 1), (3, 4, 1, 1)], [(1, 0)]),
        ):
            self.assertEqual(ends(rivals(times), state), (rests, None))
        rests, told = ends(rivals([(1, 2, 1, 2), (1, 2, 1, 2)]), state)
        self.assertEqual(rests, [(0, 1), (1, 0)])
        self.assertIsNotNone(told)

    def test_rivals_that_change_at_once_go_round(self):
        net = rivals([(2, 2, 3, 3)] * 2)
        rests, told = ends(net, ((1,), (0, 0), (0, 0)))
        self.assertEqual(rests, [])
        self.assertEqual(len(told), 5)

    def test_a_round_that_is_only_come_to(self):
        """The relay a pulls once, and only then b begins to buzz: the state itself is in no round."""
        pieces = [("wire", 0, 2), ("coil", "a", 2, 1), ("made", "a", 0, 3), ("broken", "b", 3, 4), ("coil", "b", 4, 1)]
        net = Net([], ["a", "b"], [], 5, pieces, [(2, 2, 1, 1), (1, 2, 1, 2)])
        state = ((), (0, 0), (0, 0))
        rests, told = ends(net, state)
        self.assertEqual(rests, [])
        self.assertNotIn(state, told)
        self.assert_is_round(Player(net), state, told)

    def test_as_short_as_any(self):
        net = rivals([(2, 4, 1, 1), (3, 4, 1, 1)])
        self.assertEqual(run_to(net, ((1,), (0, 0), (0, 0)), (1, 0)), [
            ((1,), (0, 0), (0, 0)), ((1,), (0, 0), (1, 1)), ((1,), (1, 0), (0, 0))])
        self.assertEqual(len(run_to(net, ((1,), (0, 0), (0, 0)), (0, 1))), 4)

    def test_rests_of_one_pulled_part_are_told_once(self):
        net = lively_net(3, 4)
        for position in positions(net):
            rests = ends(net, state_of(position))[0]
            self.assertEqual(rests, sorted(set(rests)))

    def test_as_many_states_as_there_can_be(self):
        net = four_buzzers()
        state = ((), (0, 0, 0, 0), (0, 0, 0, 0))
        rests, told = ends(net, state)
        self.assertEqual(rests, [])
        for one, other in zip(told, told[1:] + told[:1]):
            self.assertIn(other, nexts(net, one))
        self.assertIsNone(run_to(net, state, (1, 1, 1, 1)))

    def test_greatest_net(self):
        net = greatest_net()
        state = state_of(((0, 1), (1, 0, 1, 1)))
        rests, told = ends(net, state)
        self.assertTrue(rests or told)
        for pulled in rests:
            self.assertEqual(run_to(net, state, pulled)[0], state)


class RefusalsTest(EndsCase):

    def functions(self):
        return (ends, lambda net, state: run_to(net, state, (0, 0)))

    def test_no_position(self):
        net = net_of(right_parts())
        for function in self.functions():
            for pressed, pulled in (((0,), (0, 0)), ((0, 0), (0,)), ((0, 2), (0, 0)), ((0, 0), (0, -1)), ((), ())):
                for counts in ((0, 0), (), (9, 9)):
                    refusal(self, "NoPosition", function, net, (pressed, pulled, counts))

    def test_no_position_of_a_pulled_part(self):
        net = net_of(right_parts())
        for pulled in ((), (0,), (0, 0, 0), (0, 2), (-1, 0)):
            refusal(self, "NoPosition", run_to, net, ((0, 0), (0, 0), (0, 0)), pulled)
            refusal(self, "NoPosition", run_to, net, ((0, 0), (0, 0), (0, 1)), pulled)
            refusal(self, "NoPosition", run_to, net, ((0, 0), (0, 0), ()), pulled)

    def test_no_state(self):
        net = net_of(right_parts())
        for counts in ((), (0,), (0, 0, 0), (1, 0), (0, 1), (-1, 0)):
            for function in self.functions():
                refusal(self, "NoState", function, net, ((0, 0), (0, 0), counts))
        for function in self.functions():
            refusal(self, "NoState", function, net, ((1, 0), (0, 0), (2, 0)))


class OwnListsTest(EndsCase):

    def test_told_lists_are_the_askers_own(self):
        for net, state in ((rivals([(1, 2, 1, 2), (1, 2, 1, 2)]), ((1,), (0, 0), (0, 0))),
                           (buzzer(SLOWEST), ((1,), (0,), (0,)))):
            told = ends(net, state)
            copy = (list(told[0]), list(told[1]))
            told[0].append(5)
            told[1].clear()
            self.assertEqual(ends(net, state), copy)
        net = rivals([(2, 4, 1, 1), (3, 4, 1, 1)])
        run = run_to(net, ((1,), (0, 0), (0, 0)), (1, 0))
        copy = list(run)
        run.clear()
        self.assertEqual(run_to(net, ((1,), (0, 0), (0, 0)), (1, 0)), copy)

    def test_like_nets_are_told_alike(self):
        for seed in range(20):
            one, other = lively_net(seed, 3), lively_net(seed, 3)
            for position in positions(one):
                state = state_of(position)
                told = ends(one, state)
                self.assertEqual(ends(other, state), told)
                self.assertEqual(ends(one, state), told)
                for pulled in told[0]:
                    self.assertEqual(run_to(one, state, pulled), run_to(other, state, pulled))
            self.assertEqual(told_parts(one), told_parts(other))
