import itertools
import random
import unittest

from relayholds.benches import Bench
from relayholds.bynames import laid_by_names
from relayholds.fewest import fewest_names
from relayholds.nets import Net
from relayholds.tables import pressed_by
from relayholds.ticks import is_rest, state_of
from tests.examples import (
    SLOWEST, TIMES, TWO_ENDS, buzzer, greatest_net, lively_net, lucky_buzzer, net_of, random_table, refusal, right_parts,
    rivals, told_parts,
)
from tests.reckoning import Player, contacts_of, keys_of, positions, reckoned_stuck


def told_of(bench):
    return bench.state(), bench.lit(), bench.history()


class Reckoned:
    """A bench by the words of the document; each thing that is done tells a pulled part, or None where it is raced."""

    def __init__(self, net, state):
        self.nets, self.now = {None: Player(net)}, None
        self.state, self.history = state, []

    def press(self, letter):
        pulled = self.go(self.now, keys_of(self.nets[None].net, letter))
        if pulled is not None:
            self.history.append(letter)
        return pulled

    def change(self, stuck):
        """stuck is (piece, word), or None where all is whole."""
        if stuck not in self.nets:
            self.nets[stuck] = Player(reckoned_stuck(self.nets[None].net, *stuck))
        return self.go(stuck, self.state[0])

    def go(self, stuck, pressed):
        rests, has_round = self.nets[stuck].from_position((pressed, self.state[1]))
        if has_round or len(rests) != 1:
            return None
        self.now, self.state = stuck, (pressed, rests[0], (0,) * len(rests[0]))
        return rests[0]

    def told(self):
        return self.state, self.nets[self.now].lamps(self.state[:2]), self.history


class BenchCase(unittest.TestCase):

    def assert_raced(self, bench, function, *arguments):
        """It is refused, with no race, and all stays as it was."""
        before = told_of(bench)
        self.assertIsNone(refusal(self, "Raced", function, *arguments).race)
        self.assertEqual(told_of(bench), before)


class ManyNetsTest(BenchCase):

    def play(self, net, state, chance, many):
        """Random things are done; how many of each kind were refused or not is told."""
        bench, reckoned, found = Bench(net, state), Reckoned(net, state), []
        for _ in range(many):
            kind = chance.choice(["press", "press", "stick", "mend"])
            if kind == "press":
                letter = chance.randrange(2 ** len(net.key_words()))
                function, arguments, pulled = bench.press, (letter,), reckoned.press(letter)
            elif kind == "stick" and contacts_of(net):
                arguments = chance.choice(contacts_of(net)), chance.choice(["made", "open"])
                function, pulled = bench.stick, reckoned.change(arguments)
            else:
                function, arguments, pulled = bench.mend, (), reckoned.change(None)
            found.append((kind, pulled is None))
            if pulled is None:
                self.assert_raced(bench, function, *arguments)
            else:
                self.assertEqual(function(*arguments), pulled)
            self.assertEqual(told_of(bench), reckoned.told())
        return found

    def test_random_things_are_done(self):
        found = []
        for seed in range(80):
            net, chance = lively_net(seed, 1 + seed % 3), random.Random(seed)
            before = told_parts(net)
            rests = [state_of(position) for position in positions(net) if is_rest(net, state_of(position))]
            for state in rests[:2]:
                found += self.play(net, state, chance, 20)
            self.assertEqual(told_parts(net), before)
        for kind in ("press", "stick", "mend"):
            self.assertGreater(found.count((kind, False)), 50, kind)

    def test_rivals_and_buzzers(self):
        found = []
        for net, state in ((rivals(TWO_ENDS), ((0,), (0, 0), (0, 0))), (buzzer(TIMES), ((0,), (0,), (0,))),
                           (net_of(right_parts()), ((0, 0), (0, 0), (0, 0)))):
            for seed in range(10):
                found += self.play(net, state, random.Random(seed), 30)
        for kind, refused in itertools.product(("press", "stick", "mend"), (True, False)):
            self.assertGreater(found.count((kind, refused)), 5, (kind, refused))

    def test_laid_nets_go_as_the_table_says(self):
        for seed in range(15):
            table, chance, s = random_table(seed, 4, 2), random.Random(seed), 0
            names = fewest_names(table)[0]
            places = len(names[0])
            net = laid_by_names(table, names, ["ra", "rb", "rc"][:places], [SLOWEST] * places)
            start = [x for x in range(4) if table.goes(0, x) == 0]
            if start:
                bench, letters = Bench(net, state_of((pressed_by(2, start[0]), names[0]))), []
                for _ in range(15):
                    letters.append(chance.randrange(4))
                    s = table.goes(s, letters[-1])
                    self.assertEqual(bench.press(letters[-1]), names[s])
                    state = (pressed_by(2, letters[-1]), names[s], (0,) * places)
                    self.assertEqual(told_of(bench), (state, table.lights(s), letters))


class FewNetsTest(BenchCase):

    def test_kinds_of_what_is_told(self):
        bench = Bench(net_of(right_parts()), ((0, 0), (0, 0), (0, 0)))
        self.assertEqual(told_of(bench), (((0, 0), (0, 0), (0, 0)), (1, 0), []))
        told = (bench.press(1), bench.stick(0, "made"), bench.mend(), bench.state(), bench.lit(), bench.history())
        self.assertEqual([type(part) for part in told], [tuple] * 5 + [list])

    def test_letters_one_behind_another(self):
        bench = Bench(net_of(right_parts()), ((0, 0), (0, 0), (0, 0)))
        for letter, pressed, pulled, lit in ((1, (1, 0), (1, 1), (0, 1)), (0, (0, 0), (1, 1), (0, 1)),
                                             (0, (0, 0), (1, 1), (0, 1)), (2, (0, 1), (0, 0), (1, 0)),
                                             (3, (1, 1), (0, 0), (1, 0)), (1, (1, 0), (1, 1), (0, 1))):
            self.assertEqual(bench.press(letter), pulled)
            self.assertEqual((bench.state(), bench.lit()), ((pressed, pulled, (0, 0)), lit))
        self.assertEqual(bench.history(), [1, 0, 0, 2, 3, 1])

    def test_one_in_the_place_of_another(self):
        """Numbers are those of the net that was handed in, and just one contact is stuck at a time."""
        bench = Bench(net_of(right_parts()), ((0, 0), (0, 0), (0, 0)))
        self.assertEqual(bench.stick(0, "open"), (0, 0))
        self.assertEqual(bench.press(1), (0, 0))
        self.assertEqual(bench.stick(4, "open"), (1, 0))
        self.assertEqual(bench.lit(), (0, 0))
        self.assertEqual(bench.stick(2, "open"), (0, 0))
        self.assertEqual(bench.lit(), (1, 0))
        self.assertEqual(bench.stick(4, "made"), (1, 1))
        self.assertEqual(bench.press(2), (0, 1))
        self.assertEqual((bench.lit(), bench.mend()), ((0, 1), (0, 0)))
        self.assertEqual((bench.lit(), bench.history()), ((1, 0), [1, 2]))

    def test_what_is_mended_goes_on_from_where_it_stands(self):
        bench = Bench(net_of(right_parts()), ((0, 0), (0, 0), (0, 0)))
        self.assertEqual(bench.stick(0, "made"), (1, 1))
        self.assertEqual(bench.mend(), (1, 1))
        self.assertEqual(bench.state(), ((0, 0), (1, 1), (0, 0)))
        self.assertEqual(bench.mend(), (1, 1))
        self.assertEqual(bench.history(), [])

    def test_lamps_of_the_stuck_net(self):
        net = Net(["k"], [], ["l"], 3, [("made", "k", 0, 2), ("lamp", "l", 2, 1)], [])
        bench = Bench(net, ((0,), (), ()))
        self.assertEqual((bench.lit(), bench.stick(0, "made"), bench.lit()), ((0,), (), (1,)))
        self.assertEqual((bench.press(1), bench.lit(), bench.stick(0, "open"), bench.lit()), ((), (1,), (), (0,)))
        self.assertEqual((bench.mend(), bench.lit()), ((), (1,)))

    def test_presses_that_are_raced(self):
        for net, pulled in ((rivals(TWO_ENDS), (0, 0)), (rivals([(1, 1, 1, 1)] * 2), (0, 0)), (buzzer(TIMES), (0,)),
                            (lucky_buzzer(), (0, 0))):
            bench = Bench(net, state_of(((0,), pulled)))
            for _ in range(3):
                self.assert_raced(bench, bench.press, 1)
                self.assertEqual(bench.press(0), pulled)
            self.assertEqual(bench.history(), [0, 0, 0])

    def test_stick_that_is_raced_leaves_the_net(self):
        """Without the contact of k nobody is pulled; when another one is stuck instead, the rivals would race."""
        net = rivals(TWO_ENDS)
        bench = Bench(net, ((0,), (0, 0), (0, 0)))
        self.assertEqual((bench.stick(0, "open"), bench.press(1)), ((0, 0), (0, 0)))
        self.assert_raced(bench, bench.mend)
        self.assertEqual((bench.press(1), bench.press(0), bench.press(1)), ((0, 0), (0, 0), (0, 0)))
        self.assert_raced(bench, bench.stick, 0, "made")
        self.assertEqual((bench.press(1), bench.stick(1, "open"), bench.mend()), ((0, 0), (0, 1), (0, 1)))
        self.assertEqual(bench.history(), [1, 1, 0, 1, 1])
        self.assertEqual(bench.press(0), (0, 0))
        self.assert_raced(bench, bench.press, 1)

    def test_mend_that_is_raced_leaves_the_net(self):
        bench = Bench(buzzer(TIMES), ((0,), (0,), (0,)))
        self.assertEqual((bench.stick(1, "made"), bench.press(1)), ((0,), (1,)))
        self.assert_raced(bench, bench.mend)
        self.assertEqual((bench.press(0), bench.press(1)), ((0,), (1,)))
        self.assertEqual((bench.press(0), bench.mend()), ((0,), (0,)))
        self.assert_raced(bench, bench.press, 1)

    def test_from_a_rest_with_keys_pressed(self):
        bench = Bench(rivals(TWO_ENDS), ((1,), (0, 1), (0, 0)))
        self.assertEqual((bench.state(), bench.history()), (((1,), (0, 1), (0, 0)), []))
        self.assertEqual((bench.press(1), bench.press(0)), ((0, 1), (0, 0)))

    def test_without_keys_and_relays(self):
        bench = Bench(Net([], [], ["l"], 2, [("lamp", "l", 0, 1)], []), ((), (), ()))
        self.assertEqual((bench.press(0), bench.press(0), bench.lit(), bench.history()), ((), (), (1,), [0, 0]))

    def test_greatest_net(self):
        bench = Bench(greatest_net(), ((0, 0), (0,) * 4, (0,) * 4))
        for letter in (3, 1, 2):
            self.assertEqual(bench.press(letter), (0,) * 4)
        self.assertEqual(bench.stick(799, "made"), (0,) * 4)
        self.assertEqual(bench.lit(), (0, 0))


class RefusalsTest(BenchCase):

    def test_no_position_no_state_not_resting(self):
        net = net_of(right_parts())
        for pressed, pulled in (((0,), (0, 0)), ((0, 0), (0,)), ((0, 2), (0, 0)), ((0, 0), (0, -1)), ((), ())):
            for counts in ((0, 0), (), (9, 9)):
                refusal(self, "NoPosition", Bench, net, (pressed, pulled, counts))
        for pressed, counts in (((0, 0), ()), ((0, 0), (0, 1)), ((1, 0), (2, 0)), ((1, 0), (0, 0, 0)), ((1, 0), (-1, 0))):
            refusal(self, "NoState", Bench, net, (pressed, (0, 0), counts))
        for counts in ((0, 0), (1, 0)):
            refusal(self, "NotResting", Bench, net, ((1, 0), (0, 0), counts))

    def test_no_piece(self):
        bench = Bench(net_of(right_parts()), ((0, 0), (0, 0), (0, 0)))
        bench.press(1)
        bench.stick(4, "open")
        before = told_of(bench)
        for piece, word in itertools.product((-1, -9, 3, 5, 6, 7, 8, 9, 10 ** 20, -10 ** 20), ("made", "open")):
            refusal(self, "NoPiece", bench.stick, piece, word)
            self.assertEqual(told_of(bench), before)
        self.assertEqual((bench.press(0), bench.lit()), ((1, 0), (0, 0)))

    def test_no_piece_where_it_would_be_raced(self):
        bench = Bench(buzzer(TIMES), ((0,), (0,), (0,)))
        bench.stick(1, "made")
        bench.press(1)
        for piece in (-1, 2, 3):
            refusal(self, "NoPiece", bench.stick, piece, "made")
        self.assert_raced(bench, bench.mend)


class OwnListsTest(BenchCase):

    def test_history_is_the_askers_own(self):
        bench = Bench(net_of(right_parts()), ((0, 0), (0, 0), (0, 0)))
        bench.press(1)
        told = bench.history()
        bench.history().append(7)
        bench.press(2)
        self.assertEqual((told, bench.history()), ([1], [1, 2]))

    def test_two_benches_with_one_net(self):
        net = net_of(right_parts())
        one, other = Bench(net, ((0, 0), (0, 0), (0, 0))), Bench(net, ((0, 0), (1, 1), (0, 0)))
        one.stick(2, "open")
        self.assertEqual((one.press(1), other.press(2), one.history(), other.history()), ((0, 0), (0, 0), [1], [2]))
        self.assertEqual((other.press(1), one.press(1)), ((1, 1), (0, 0)))
        self.assertEqual(told_parts(net), right_parts())

    def test_told_alike(self):
        benches = [Bench(net_of(right_parts()), ((0, 0), (0, 0), (0, 0))) for _ in range(2)]
        for letter in (1, 0, 3, 2, 1):
            self.assertEqual(benches[0].press(letter), benches[1].press(letter))
            self.assertEqual(told_of(benches[0]), told_of(benches[1]))
            self.assertEqual(told_of(benches[0]), told_of(benches[0]))
