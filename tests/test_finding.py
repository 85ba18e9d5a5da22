import itertools
import unittest

from relayholds.bynames import laid_by_names
from relayholds.current import current
from relayholds.ends import ends
from relayholds.fewest import fewest_names
from relayholds.finding import is_sure, row_of_presses
from relayholds.nets import Net
from relayholds.pairs import raceless_names
from relayholds.plain import laid_plainly
from relayholds.stuck import stuck_net
from relayholds.tables import Table, pressed_by
from relayholds.ticks import is_rest, state_of
from tests.examples import (
    SLOWEST, TIMES, TWO_ENDS, buzzer, greatest_net, lively_net, lucky_buzzer, net_of, random_net, random_table, refusal,
    right_parts, rivals, told_parts,
)
from tests.reckoning import Player, Trial, all_bits, contacts_of, keys_of, positions, reckoned_stuck

WORDS = ("made", "open")


class Told:
    """The program's own ends and lamps, as Trial asks for them: for nets too great for a slow reckoning."""

    def __init__(self, net):
        self.net, self.known, self.lit = net, {}, {}

    def from_position(self, position):
        if position not in self.known:
            rests, told_round = ends(self.net, state_of(position))
            self.known[position] = rests, told_round is not None
        return self.known[position]

    def lamps(self, position):
        if position not in self.lit:
            self.lit[position] = current(self.net, position)[1]
        return self.lit[position]


def all_keys(net):
    return [keys_of(net, letter) for letter in range(2 ** len(net.key_words()))]


def rests_of(net):
    return [state_of(position) for position in positions(net) if is_rest(net, state_of(position))]


def follower_with_lamp():
    """The lamp is lit where the relay r is pulled, which follows the key k."""
    pieces = [("made", "k", 0, 2), ("coil", "r", 2, 1), ("made", "r", 0, 3), ("lamp", "l", 3, 1)]
    return Net(["k"], ["r"], ["l"], 4, pieces, [SLOWEST])


def hidden_rivals(times, lamp_contacts):
    """Two rivals that never have current, since piece 1 is never joined with piece 0; the lamp is lit by them."""
    pieces = [("made", "k", 0, 2), ("broken", "k", 2, 3), ("broken", "b", 3, 4), ("coil", "a", 4, 1),
              ("broken", "a", 3, 5), ("coil", "b", 5, 1), ("lamp", "l", 6, 1)]
    pieces += [("made", name, 0, 6) for name in lamp_contacts]
    return Net(["k"], ["a", "b"], ["l"], 7, pieces, times)


def late_trouble(trouble, times):
    """The key k pulls h, which holds itself; then j alone brings trouble to the other relays."""
    pieces = [("made", "k", 0, 2), ("made", "h", 0, 2), ("coil", "h", 2, 1),
              ("made", "j", 0, 3), ("broken", "k", 3, 4), ("made", "h", 4, 5)]
    return Net(["k", "j"], ["h", "a", "b"], [], 8, pieces + trouble, [TIMES] + times)


RIVALS = [("broken", "b", 5, 6), ("coil", "a", 6, 1), ("broken", "a", 5, 7), ("coil", "b", 7, 1)]
BUZZERS = [("broken", "a", 5, 6), ("coil", "a", 6, 1), ("coil", "b", 7, 1)]


class IsSureTest(unittest.TestCase):

    def test_all_rests_of_many_nets(self):
        found = []
        for net in [lively_net(seed, 1 + seed % 3) for seed in range(120)] + [random_net(seed) for seed in range(40)]:
            player = Player(net)
            for state in rests_of(net):
                told = is_sure(net, state)
                self.assertIs(told, player.is_sure(state))
                found.append(told)
        self.assertGreater(found.count(False), 15)
        self.assertGreater(found.count(True), 100)

    def test_four_relays(self):
        for seed in range(12):
            net = lively_net(seed, 4)
            player = Player(net)
            for state in rests_of(net)[:4]:
                self.assertIs(is_sure(net, state), player.is_sure(state))

    def test_sure(self):
        self.assertIs(is_sure(follower_with_lamp(), ((0,), (0,), (0,))), True)
        self.assertIs(is_sure(follower_with_lamp(), ((1,), (1,), (0,))), True)
        self.assertIs(is_sure(rivals([(1, 1, 1, 1), (2, 2, 1, 1)]), ((0,), (0, 0), (0, 0))), True)
        self.assertIs(is_sure(greatest_net(), ((0, 1), (0,) * 4, (0,) * 4)), True)

    def test_without_relays_or_keys(self):
        self.assertIs(is_sure(Net(["k"], [], [], 2, [], []), ((1,), (), ())), True)
        self.assertIs(is_sure(Net([], ["r"], [], 2, [("coil", "r", 0, 1)], [TIMES]), ((), (1,), (0,))), True)

    def test_more_ends_than_one_from_the_state(self):
        net = rivals(TWO_ENDS)
        self.assertEqual(ends(net, ((1,), (0, 0), (0, 0))), ([(0, 1), (1, 0)], None))
        self.assertIs(is_sure(net, ((0,), (0, 0), (0, 0))), False)

    def test_a_round_from_the_state(self):
        self.assertIs(is_sure(buzzer((1, 1, 1, 1)), ((0,), (0,), (0,))), False)

    def test_one_end_with_a_round(self):
        rests, told_round = ends(lucky_buzzer(), ((1,), (0, 0), (0, 0)))
        self.assertEqual((rests, told_round is None), ([(0, 1)], False))
        self.assertIs(is_sure(lucky_buzzer(), ((0,), (0, 0), (0, 0))), False)

    def test_trouble_from_a_rest_that_letters_lead_to(self):
        for trouble, times in ((RIVALS, TWO_ENDS), (BUZZERS, [TIMES] * 2)):
            net = late_trouble(trouble, times)
            start = ((0, 0), (0, 0, 0), (0, 0, 0))
            for pressed in all_bits(2):
                rests, told_round = ends(net, (pressed,) + start[1:])
                self.assertEqual((len(rests), told_round), (1, None))
            self.assertIs(is_sure(net, start), False)
            self.assertIs(is_sure(net, ((1, 0), (1, 0, 0), (0, 0, 0))), False)

    def test_trouble_to_which_no_letter_leads(self):
        """Without the contact of k nothing pulls h."""
        for trouble, times in ((RIVALS, TWO_ENDS), (BUZZERS, [TIMES] * 2)):
            net = stuck_net(late_trouble(trouble, times), 0, "open")
            self.assertIs(is_sure(net, ((0, 0), (0, 0, 0), (0, 0, 0))), True)
            self.assertIs(is_sure(net, ((0, 0), (1, 0, 0), (0, 0, 0))), False)

    def test_laid_nets(self):
        for seed in range(20):
            table = random_table(seed, 4, 2)
            for net, names in nets_of(table):
                for s, x in itertools.product(range(4), range(4)):
                    if table.goes(s, x) == s:
                        self.assertIs(is_sure(net, state_of((pressed_by(2, x), names[s]))), True)


def nets_of(table):
    """The nets that are laid for a table, each with the pulled parts of its states."""
    many = len(table.states())
    plain = laid_plainly(table, [SLOWEST] * many)
    found = [(plain, [tuple(1 if s == u else 0 for u in range(many)) for s in range(many)])]
    for names in (raceless_names(table), fewest_names(table)[0]):
        places = len(names[0])
        found.append((laid_by_names(table, names, ["ra", "rb", "rc"][:places], [SLOWEST] * places), names))
    return found


class RowCase(unittest.TestCase):

    def assert_row(self, trial, net, state, piece, word):
        told = row_of_presses(net, state, piece, word)
        many = trial.fewest_letters(state)
        if many is None:
            self.assertIsNone(told)
            return None
        self.assertIs(type(told), list)
        self.assertEqual(len(told), many)
        self.assertTrue(trial.does(state, told))
        return many

    def assert_rows(self, net, states, player):
        """All contacts of a net, stuck either way; how many letters it takes each time."""
        found, sure = [], player(net)
        for piece, word in itertools.product(contacts_of(net), WORDS):
            trial = Trial(sure, player(reckoned_stuck(net, piece, word)), all_keys(net))
            found += [self.assert_row(trial, net, state, piece, word) for state in states]
        return found


class RowsOfManyNetsTest(RowCase):

    def test_small_nets(self):
        found = []
        for seed in range(90):
            for net in (lively_net(seed, 1 + seed % 3), random_net(seed)):
                if net.lamps():
                    states = [state for state in rests_of(net) if is_sure(net, state)]
                    found += self.assert_rows(net, states[::1 + len(states) // 3], Player)
        self.assertGreater(found.count(0), 50)
        self.assertGreater(found.count(1), 50)
        self.assertGreater(found.count(2), 0)
        self.assertGreater(found.count(None), 50)

    def test_lively_nets(self):
        for seed in range(200):
            net = lively_net(seed)
            if net.lamps():
                self.assert_rows(net, [state for state in rests_of(net) if is_sure(net, state)][:3], Told)

    def test_small_laid_nets(self):
        table = Table(["k"], ["low", "high"], ["l"], [[0, 1], [1, 1]], [(0,), (1,)])
        found = set()
        for net, names in nets_of(table):
            found |= set(self.assert_rows(net, [state_of(((0,), names[0]))], Player))
        self.assertEqual(found, {0, 1, 2, None})

    def test_laid_nets_with_each_contact_stuck(self):
        found = []
        for columns, lights in (
            ([(0, 1, 2), (1, 1, 1), (2, 2, 2), (0, 0, 0)], [(0, 0), (0, 1), (1, 1)]),
            ([(0, 1, 2, 3), (1, 1, 3, 3), (2, 3, 2, 3), (0, 0, 0, 0)], [(0, 0), (0, 1), (1, 0), (0, 0)]),
            ([(0, 1, 2, 3), (1, 1, 3, 3), (2, 1, 2, 2), (0, 0, 2, 3)], [(0,), (0,), (0,), (1,)]),
        ):
            rows = [[column[s] for column in columns] for s in range(len(lights))]
            table = Table(["ka", "kb"], ["sa", "sb", "sc", "sd"][:len(lights)], ["la", "lb"][:len(lights[0])],
                          rows, lights)
            for net, names in nets_of(table):
                found += self.assert_rows(net, [state_of(((0, 0), names[0]))], Told)
        for many in (0, 1, 2, 3, None):
            self.assertIn(many, found)


class RowsOfFewNetsTest(RowCase):

    def test_follower(self):
        net = follower_with_lamp()
        idle, pulled = ((0,), (0,), (0,)), ((1,), (1,), (0,))
        for piece in (0, 2):
            self.assertEqual(row_of_presses(net, idle, piece, "made"), [])
            self.assertEqual(row_of_presses(net, idle, piece, "open"), [1])
            self.assertEqual(row_of_presses(net, pulled, piece, "made"), [0])
            self.assertEqual(row_of_presses(net, pulled, piece, "open"), [])

    def test_lamps_that_hang_on_keys_alone(self):
        """The pulled parts are the same all along, and only the keys make the lamp tell."""
        pieces = [("made", "k", 0, 2), ("made", "j", 2, 3), ("lamp", "l", 3, 1)]
        net = Net(["k", "j"], [], ["l"], 4, pieces, [])
        for pressed, piece, word, row in (((0, 0), 0, "open", [3]), ((0, 0), 0, "made", [2]), ((0, 0), 1, "made", [1]),
                                          ((1, 1), 1, "open", []), ((0, 1), 0, "made", []), ((0, 1), 1, "made", [1])):
            self.assertEqual(row_of_presses(net, (pressed, (), ()), piece, word), row)

    def test_without_lamps_or_keys(self):
        net = Net(["k"], ["r"], [], 3, [("made", "k", 0, 2), ("coil", "r", 2, 1)], [TIMES])
        for word in WORDS:
            self.assertIsNone(row_of_presses(net, ((0,), (0,), (0,)), 0, word))
        pieces = [("made", "r", 0, 2), ("coil", "r", 2, 1), ("lamp", "l", 2, 1)]
        net = Net([], ["r"], ["l"], 3, pieces, [TIMES])
        self.assertEqual(row_of_presses(net, ((), (0,), (0,)), 0, "made"), [])
        self.assertIsNone(row_of_presses(net, ((), (0,), (0,)), 0, "open"))
        self.assertEqual(row_of_presses(net, ((), (1,), (0,)), 0, "open"), [])

    def test_a_contact_that_is_never_of_use(self):
        pieces = [("made", "k", 0, 2), ("made", "k", 0, 2), ("lamp", "l", 2, 1)]
        net = Net(["k"], [], ["l"], 3, pieces, [])
        for piece in (0, 1):
            self.assertIsNone(row_of_presses(net, ((0,), (), ()), piece, "open"))

    def test_wherever_it_may_stand(self):
        """By letter 1 the stuck one ends with either rival pulled; the lamp must tell for both."""
        idle = ((0,), (0, 0), (0, 0))
        self.assertEqual(row_of_presses(hidden_rivals(TWO_ENDS, "ab"), idle, 1, "made"), [1])
        self.assertIsNone(row_of_presses(hidden_rivals(TWO_ENDS, "a"), idle, 1, "made"))
        self.assertIsNone(row_of_presses(hidden_rivals(TWO_ENDS, "b"), idle, 1, "made"))

    def test_wherever_it_may_stand_at_the_beginning(self):
        """The key is pressed from the beginning on, so the stuck one is with either rival there at once."""
        begun = ((1,), (0, 0), (0, 0))
        self.assertEqual(row_of_presses(hidden_rivals(TWO_ENDS, "ab"), begun, 1, "made"), [])
        self.assertIsNone(row_of_presses(hidden_rivals(TWO_ENDS, "a"), begun, 1, "made"))

    def test_a_round_of_the_stuck_one(self):
        """Where both may pull and fall at once they never come to rest; the lamps tell nothing then."""
        for state in (((0,), (0, 0), (0, 0)), ((1,), (0, 0), (0, 0))):
            net = hidden_rivals([(1, 2, 1, 2)] * 2, "ab")
            self.assertIsNone(row_of_presses(net, state, 1, "made"))

    def test_a_round_at_the_beginning(self):
        """Piece 1, stuck made, lets r buzz, unless the key is pressed: so no row does, though letter 1 would tell."""
        pieces = [("broken", "k", 0, 2), ("made", "k", 2, 3), ("broken", "r", 3, 4), ("coil", "r", 4, 1),
                  ("made", "k", 0, 5), ("lamp", "l", 5, 1)]
        net = Net(["k"], ["r"], ["l"], 6, pieces, [TIMES])
        self.assertIsNotNone(ends(stuck_net(net, 1, "made"), ((0,), (0,), (0,)))[1])
        self.assertIsNone(row_of_presses(net, ((0,), (0,), (0,)), 1, "made"))
        self.assertEqual(row_of_presses(net, ((0,), (0,), (0,)), 4, "open"), [1])

    def test_a_round_by_one_letter_is_gone_around(self):
        """Piece 0, stuck made, would be seen by letter 2, but then r buzzes; by letters 3 and 0 it does not."""
        pieces = [("made", "k", 0, 2), ("made", "j", 2, 3), ("broken", "k", 3, 4), ("broken", "r", 4, 5),
                  ("coil", "r", 5, 1), ("made", "j", 0, 6), ("made", "h", 0, 6), ("coil", "h", 6, 1),
                  ("made", "h", 2, 7), ("lamp", "l", 7, 1)]
        net = Net(["k", "j"], ["r", "h"], ["l"], 8, pieces, [TIMES] * 2)
        idle = ((0, 0), (0, 0), (0, 0))
        self.assertEqual(row_of_presses(net, idle, 0, "made"), [3, 0])
        calm = stuck_net(net, 3, "open")
        self.assertEqual(row_of_presses(calm, idle, 0, "made"), [2])

    def test_swaps(self):
        """Stuck made a swap joins a to b alone, stuck open neither."""
        pieces = [("swap", "k", 0, 2, 3), ("lamp", "x", 2, 1), ("lamp", "y", 3, 1)]
        net = Net(["k"], [], ["x", "y"], 4, pieces, [])
        self.assertEqual(row_of_presses(net, ((0,), (), ()), 0, "made"), [])
        self.assertEqual(row_of_presses(net, ((1,), (), ()), 0, "made"), [0])
        for bit in (0, 1):
            self.assertEqual(row_of_presses(net, ((bit,), (), ()), 0, "open"), [])

    def test_greatest_net(self):
        net = greatest_net()
        told = row_of_presses(net, ((0, 0), (0,) * 4, (0,) * 4), 799, "open")
        self.assertIsNone(told)


class RefusalsTest(unittest.TestCase):

    WRONG_POSITIONS = (((0,), (0, 0)), ((0, 0, 0), (0, 0)), ((0, 0), (0,)), ((0, 0), (0, 2)), ((0, -1), (0, 0)), ((), ()))

    def test_no_position_and_no_state(self):
        net = net_of(right_parts())
        for pressed, pulled in self.WRONG_POSITIONS:
            for counts in ((0, 0), (), (9, 9)):
                refusal(self, "NoPosition", is_sure, net, (pressed, pulled, counts))
                refusal(self, "NoPosition", row_of_presses, net, (pressed, pulled, counts), 0, "made")
        for counts in ((), (0,), (0, 0, 0), (1, 0), (0, 1), (-1, 0)):
            refusal(self, "NoState", is_sure, net, ((0, 0), (0, 0), counts))
            refusal(self, "NoState", row_of_presses, net, ((0, 0), (0, 0), counts), 0, "open")
        refusal(self, "NoState", is_sure, net, ((1, 0), (0, 0), (2, 0)))
        refusal(self, "NoState", row_of_presses, net, ((1, 0), (0, 0), (2, 0)), 0, "open")

    def test_not_resting(self):
        net = net_of(right_parts())
        for counts in ((0, 0), (1, 0)):
            refusal(self, "NotResting", is_sure, net, ((1, 0), (0, 0), counts))
            refusal(self, "NotResting", row_of_presses, net, ((1, 0), (0, 0), counts), 0, "made")
        self.assertIs(is_sure(net, ((0, 0), (0, 0), (0, 0))), True)

    def test_not_sure(self):
        for net, state in ((rivals(TWO_ENDS), ((0,), (0, 0), (0, 0))), (buzzer(TIMES), ((0,), (0,), (0,))),
                           (lucky_buzzer(), ((0,), (0, 0), (0, 0))),
                           (late_trouble(RIVALS, TWO_ENDS), ((0, 0), (0, 0, 0), (0, 0, 0))),
                           (late_trouble(BUZZERS, [TIMES] * 2), ((0, 0), (0, 0, 0), (0, 0, 0)))):
            for piece, word in itertools.product(contacts_of(net), WORDS):
                refusal(self, "NotSure", row_of_presses, net, state, piece, word)

    def test_not_sure_also_where_the_beginning_tells(self):
        pieces = buzzer(TIMES).pieces() + [("made", "k", 0, 4), ("lamp", "l", 4, 1)]
        net = Net(["k"], ["r"], ["l"], 5, pieces, [TIMES])
        refusal(self, "NotSure", row_of_presses, net, ((0,), (0,), (0,)), 3, "made")

    def test_no_piece(self):
        net = net_of(right_parts())
        for piece in (-1, -9, 3, 5, 6, 7, 8, 9, 10 ** 20, -10 ** 20):
            for word in WORDS:
                refusal(self, "NoPiece", row_of_presses, net, ((0, 0), (0, 0), (0, 0)), piece, word)

    def test_two_due_at_once(self):
        """Each refusal with each later one: the first one of the two is met."""
        net = rivals(TWO_ENDS)
        none, moving, unsure = ((2,), (0, 0), (0, 0)), ((1,), (0, 0), (0, 0)), ((0,), (0, 0), (0, 0))
        for state in (none, ((0,), (0, 0), (0, 1)), moving, unsure):
            for piece in (-1, 2, 9):
                refusal(self, "NoPiece", row_of_presses, net, state, piece, "made")
        for counts in ((), (0, 1), (9, 9)):
            refusal(self, "NoPosition", row_of_presses, net, ((2,), (0, 0), counts), 0, "made")
            refusal(self, "NoPosition", is_sure, net, ((0,), (0, 2), counts))
        for counts in ((), (2, 0), (9, 9)):
            refusal(self, "NoState", row_of_presses, net, ((1,), (0, 0), counts), 0, "made")
            refusal(self, "NoState", is_sure, net, ((1,), (0, 0), counts))
        refusal(self, "NotResting", row_of_presses, net, moving, 0, "made")
        refusal(self, "NotSure", row_of_presses, net, unsure, 0, "made")


class OwnListsTest(unittest.TestCase):

    def test_told_lists_are_the_askers_own(self):
        net, idle = follower_with_lamp(), ((0,), (0,), (0,))
        for word, row in (("made", []), ("open", [1])):
            row_of_presses(net, idle, 0, word).append(7)
            self.assertEqual(row_of_presses(net, idle, 0, word), row)
        self.assertEqual(told_parts(net), told_parts(follower_with_lamp()))

    def test_told_alike(self):
        for seed in range(30):
            one, other = lively_net(seed, 3), lively_net(seed, 3)
            for state in rests_of(one)[:2]:
                self.assertIs(is_sure(one, state), is_sure(other, state))
                if is_sure(one, state):
                    for piece, word in itertools.product(contacts_of(one), WORDS):
                        told = row_of_presses(one, state, piece, word)
                        self.assertEqual(row_of_presses(other, state, piece, word), told)
                        self.assertEqual(row_of_presses(one, state, piece, word), told)
