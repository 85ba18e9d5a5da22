import itertools
import random
import unittest

from relayholds.current import current
from relayholds.ends import ends
from relayholds.nets import Net
from relayholds.plain import laid_plainly
from relayholds.tables import pressed_by
from relayholds.ticks import called
from tests.examples import ALL_BOUNDS, SLOWEST, random_table, refusal, settled_rows, table_of

ALL_TIMES = [pull + fall for pull, fall in itertools.product(ALL_BOUNDS, repeat=2)]


def alone(many, *states):
    """The pulled part where just these states' relays are pulled."""
    return tuple(1 if s in states else 0 for s in range(many))


class PlainCase(unittest.TestCase):

    def assert_laid(self, table, net):
        self.assertIs(type(net), Net)
        self.assertEqual((net.key_words(), net.relays(), net.lamps()),
                         (table.key_words(), table.states(), table.lamps()))
        many, keys = len(table.states()), len(table.key_words())
        for s, x in itertools.product(range(many), range(table.letters())):
            pressed, t = pressed_by(keys, x), table.goes(s, x)
            self.assertEqual(current(net, (pressed, alone(many, s)))[1], table.lights(s))
            if s == t:
                self.assertEqual(called(net, (pressed, alone(many, s))), alone(many))
            else:
                self.assertEqual(called(net, (pressed, alone(many, s))), alone(many, t))
                self.assertEqual(called(net, (pressed, alone(many, s, t))), alone(many, s))
                self.assertEqual(called(net, (pressed, alone(many, t))), alone(many))

    def assert_ends(self, table, net):
        many, keys = len(table.states()), len(table.key_words())
        for s, x in itertools.product(range(many), range(table.letters())):
            state = (pressed_by(keys, x), alone(many, s), (0,) * many)
            self.assertEqual(ends(net, state), ([alone(many, table.goes(s, x))], None))


class LaidTest(PlainCase):

    def test_all_tables_of_two_states(self):
        for letters in (1, 2, 4):
            for columns in itertools.product(settled_rows(2), repeat=letters):
                table = table_of(columns, [(0, 1), (1, 1)])
                net = laid_plainly(table, [SLOWEST] * 2)
                self.assert_laid(table, net)
                self.assert_ends(table, net)

    def test_tables_of_three_and_four_states(self):
        for states, letters in ((3, 1), (3, 2), (4, 1)):
            for columns in itertools.product(settled_rows(states), repeat=letters):
                lights = [(1, 0), (0, 1), (0, 0), (1, 1)][:states]
                table = table_of(columns, lights)
                net = laid_plainly(table, [SLOWEST] * states)
                self.assert_laid(table, net)
                self.assert_ends(table, net)

    def test_many_tables(self):
        for seed in range(120):
            table = random_table(seed, 3 + seed % 2, 2 - seed % 7 // 6)
            chance = random.Random(seed)
            for _ in range(2):
                times = [chance.choice(ALL_TIMES) for _ in table.states()]
                net = laid_plainly(table, times)
                self.assertEqual(net.times(), times)
                self.assert_laid(table, net)
                self.assert_ends(table, net)

    def test_all_lights(self):
        for lamps in (0, 1, 2):
            for lights in itertools.product(itertools.product((0, 1), repeat=lamps), repeat=3):
                table = table_of([(0, 1, 2), (0, 0, 0)], list(lights))
                self.assert_laid(table, laid_plainly(table, [SLOWEST] * 3))

    def test_all_times(self):
        """Both relays with each of the times against a few, and all times that are fixed."""
        table = table_of([(0, 1), (1, 1), (0, 0), (0, 1)], [(0,), (1,)])
        for one, other in itertools.product(ALL_TIMES, ((1, 1, 1, 1), (4, 4, 4, 4), (1, 4, 2, 3))):
            self.assert_ends(table, laid_plainly(table, [one, other]))
            self.assert_ends(table, laid_plainly(table, [other, one]))
        fixed = [times for times in ALL_TIMES if times[0] == times[1] and times[2] == times[3]]
        for times in itertools.product(fixed, repeat=2):
            self.assert_ends(table, laid_plainly(table, list(times)))

    def test_letters_one_behind_another(self):
        """Whatever letters come, each from where the one ahead has ended."""
        for seed in range(20):
            table = random_table(seed, 4, 2)
            net = laid_plainly(table, [SLOWEST] * 4)
            s, chance = 0, random.Random(seed)
            for _ in range(12):
                x = chance.randrange(4)
                rests, told_round = ends(net, (pressed_by(2, x), alone(4, s), (0,) * 4))
                s = table.goes(s, x)
                self.assertEqual((rests, told_round), ([alone(4, s)], None))


class RefusalsTest(PlainCase):

    def assert_fault(self, fault, table, times):
        self.assertEqual(refusal(self, "NoNet", laid_plainly, table, times).fault, fault)

    def test_times_of_a_relay(self):
        table = random_table(5, 3, 2)
        for at in range(3):
            for wrong in ((), (1, 2, 1), (1, 2, 1, 2, 1), (0, 1, 1, 1), (1, 5, 1, 1), (2, 1, 1, 1), (1, 1, 4, 3),
                          (1, 1, -1, 1), (1, 1, 1, 10 ** 20)):
                times = [SLOWEST] * 3
                times[at] = wrong
                self.assert_fault(("times", at), table, times)
                self.assert_fault(("times", at), table, times[:at] + [wrong] * (3 - at))

    def test_how_many_times(self):
        for states in (2, 3, 4):
            table = random_table(7, states, 1)
            for many in range(7):
                if many == states:
                    self.assertEqual(laid_plainly(table, [SLOWEST] * many).times(), [SLOWEST] * many)
                else:
                    self.assert_fault(("times", many), table, [SLOWEST] * many)

    def test_refused_changes_nothing(self):
        table, times = random_table(5, 3, 2), [SLOWEST] * 2
        self.assert_fault(("times", 2), table, times)
        self.assertEqual(times, [SLOWEST] * 2)
        self.assert_laid(table, laid_plainly(table, [SLOWEST] * 3))


class OwnListsTest(PlainCase):

    def test_lists_handed_in_are_changed_later(self):
        table, times = random_table(9, 4, 2), [(1, 2, 3, 4)] * 4
        net = laid_plainly(table, times)
        self.assertEqual(times, [(1, 2, 3, 4)] * 4)
        pieces = net.pieces()
        times.clear()
        net.pieces().clear()
        self.assertEqual(net.times(), [(1, 2, 3, 4)] * 4)
        self.assert_laid(table, net)
        self.assertEqual(laid_plainly(table, [(1, 2, 3, 4)] * 4).pieces(), pieces)

    def test_like_tables_are_laid_alike(self):
        for seed in range(30):
            one, other = random_table(seed, 3), random_table(seed, 3)
            nets = [laid_plainly(table, [SLOWEST] * 3) for table in (one, other, one)]
            for net in nets:
                self.assertEqual((net.nodes(), net.pieces()), (nets[0].nodes(), nets[0].pieces()))
