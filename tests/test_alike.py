import itertools
import random
import unittest

from relayholds.alike import doubled, renamed, slowed
from relayholds.current import current
from relayholds.ends import ends, run_to
from relayholds.nets import Net
from relayholds.plain import laid_plainly
from relayholds.ticks import nexts, state_of
from tests.examples import (
    ALL_BOUNDS, PARTS, SLOWEST, buzzer, changed_parts, follower, four_buzzers, greatest_net, lively_net, net_of,
    random_net, random_table, refusal, right_parts, rivals, told_parts,
)
from tests.reckoning import Player, contacts_of, positions, reach_table, reckoned_current

WORDS = ("beside", "behind")


def many_nets():
    return [lively_net(seed) for seed in range(30)] + [random_net(seed) for seed in range(30)]


def states_of(net, most=12):
    """Some states of a net, spread over all."""
    states = list(Player(net).states())
    return states[::1 + len(states) // most]


class AlikeCase(unittest.TestCase):

    def assert_alike(self, net, other):
        """Current at all positions, nexts and ends of many states."""
        for position in positions(net):
            self.assertEqual(current(other, position), current(net, position))
        for state in states_of(net):
            self.assertEqual(nexts(other, state), nexts(net, state))
            (rests, told_round), (other_rests, other_round) = ends(net, state), ends(other, state)
            self.assertEqual((other_rests, other_round is None), (rests, told_round is None))

    def assert_refused(self, fault, function, *arguments):
        self.assertEqual(refusal(self, "NoNet", function, *arguments).fault, fault)


class RenamedTest(AlikeCase):

    def test_right_net(self):
        told = renamed(net_of(right_parts()), ["a", "b"], ["c", "d"], ["e", "f"])
        self.assertIs(type(told), Net)
        self.assertEqual(told_parts(told), changed_parts({
            "keys": ["a", "b"], "relays": ["c", "d"], "lamps": ["e", "f"],
            "pieces": [("made", "a", 0, 2), ("made", "c", 0, 2), ("broken", "b", 2, 3), ("coil", "c", 3, 1),
                       ("swap", "c", 0, 4, 5), ("coil", "d", 1, 4), ("lamp", "e", 5, 1), ("wire", 6, 4),
                       ("lamp", "f", 6, 1)]}))

    def test_words_that_change_about(self):
        """The new words are the old ones of others, also the words that pieces begin with."""
        told = renamed(net_of(right_parts()), ["one", "green"], ["reset", "red"], ["other", "set"])
        self.assertEqual(told.pieces(), [
            ("made", "one", 0, 2), ("made", "reset", 0, 2), ("broken", "green", 2, 3), ("coil", "reset", 3, 1),
            ("swap", "reset", 0, 4, 5), ("coil", "red", 1, 4), ("lamp", "other", 5, 1), ("wire", 6, 4),
            ("lamp", "set", 6, 1)])
        told = renamed(net_of(right_parts()), ["wire", "made"], ["coil", "lamp"], ["swap", "broken"])
        self.assertEqual(told.pieces()[:4], [("made", "wire", 0, 2), ("made", "coil", 0, 2), ("broken", "made", 2, 3),
                                             ("coil", "coil", 3, 1)])
        self.assertEqual(told.pieces()[7], ("wire", 6, 4))
        self.assert_alike(net_of(right_parts()), told)

    def test_many_nets(self):
        words = ["x", "eightxxx", "ra", "ka", "lb", "made", "wire", "z"]
        for seed, net in enumerate(many_nets()):
            random.Random(seed).shuffle(words)
            keys, relays, lamps = len(net.key_words()), len(net.relays()), len(net.lamps())
            lists = words[:keys], words[keys:keys + relays], words[keys + relays:keys + relays + lamps]
            told = renamed(net, *lists)
            self.assertEqual((told.key_words(), told.relays(), told.lamps()), lists)
            self.assertEqual((told.nodes(), told.times()), (net.nodes(), net.times()))
            self.assert_alike(net, told)
            back = renamed(told, net.key_words(), net.relays(), net.lamps())
            self.assertEqual(told_parts(back), told_parts(net))

    def test_words_that_make_no_net(self):
        net = net_of(right_parts())
        right = ["a", "b", "c", "d", "e", "f"]
        for at, word in itertools.product(range(6), ("", "ninesigns", "A", "a b", "1", "x\n")):
            words = right[:at] + [word] + right[at + 1:]
            self.assert_refused(("words", at), renamed, net, words[:2], words[2:4], words[4:])
        for early, late in itertools.combinations(range(6), 2):
            words = list(right)
            words[late] = words[early]
            self.assert_refused(("words", late), renamed, net, words[:2], words[2:4], words[4:])
        self.assert_refused(("words", 1), renamed, net, ["a", "a"], ["a", "A"], ["", "f"])

    def test_without_any_words(self):
        net = Net([], [], [], 3, [("wire", 0, 2)], [])
        self.assertEqual(told_parts(renamed(net, [], [], [])), told_parts(net))


class DoubledTest(AlikeCase):

    def test_right_net(self):
        net, pieces = net_of(right_parts()), right_parts()["pieces"]
        for piece in contacts_of(net):
            told = doubled(net, piece, "beside")
            self.assertIs(type(told), Net)
            self.assertEqual(told_parts(told), changed_parts({"pieces": pieces + [pieces[piece]]}))
        for piece, word, name, a, b in ((0, "made", "set", 0, 2), (1, "made", "one", 0, 2), (2, "broken", "reset", 2, 3)):
            changed = pieces + [(word, name, 8, b)]
            changed[piece] = (word, name, a, 8)
            self.assertEqual(told_parts(doubled(net, piece, "behind")), changed_parts({"pieces": changed, "nodes": 9}))

    def test_each_contact_of_many_nets(self):
        kinds = set()
        for net in many_nets():
            for piece, word in itertools.product(contacts_of(net)[::3], WORDS):
                kind = net.pieces()[piece][0]
                if (kind, word) == ("swap", "behind"):
                    refusal(self, "NoPiece", doubled, net, piece, word)
                else:
                    kinds.add((kind, word))
                    self.assert_alike(net, doubled(net, piece, word))
        self.assertEqual(len(kinds), 5)

    def test_current_by_the_words_of_the_document(self):
        for seed in range(15):
            net = random_net(seed)
            for piece, word in itertools.product(contacts_of(net), WORDS):
                if net.pieces()[piece][0] == "swap" and word == "behind":
                    continue
                told = doubled(net, piece, word)
                for position in positions(net):
                    tables = reach_table(net, position), reach_table(told, position)
                    self.assertEqual([row[:net.nodes()] for row in tables[1][:net.nodes()]], tables[0])
                    self.assertEqual(reckoned_current(told, tables[1], "coil", net.relays()), current(net, position)[0])

    def test_doubled_again_and_again(self):
        net = follower(SLOWEST)
        for many in range(1, 6):
            net = doubled(doubled(net, 0, "behind"), 0, "beside")
            self.assertEqual((net.nodes(), len(net.pieces())), (3 + many, 2 + 2 * many))
            self.assert_alike(follower(SLOWEST), net)

    def test_no_piece(self):
        net = net_of(right_parts())
        for piece, word in itertools.product((-1, -9, -6, 3, 5, 6, 7, 8, 9, 10, 10 ** 20, -10 ** 20), WORDS):
            refusal(self, "NoPiece", doubled, net, piece, word)
        refusal(self, "NoPiece", doubled, net, 4, "behind")
        self.assertEqual(doubled(net, 4, "beside").pieces()[-1], ("swap", "one", 0, 4, 5))


def net_of_size(nodes, pieces):
    """A net with so many nodes and pieces; piece 0 is a contact, piece 1 a wire, piece 2 a swap."""
    parts = [("made", "k", 0, 2), ("wire", 2, 3), ("swap", "k", 3, 4, 0)]
    return Net(["k"], [], [], nodes, parts + [("broken", "k", 2, 3)] * (pieces - 3), [])


class BoundsOfDoubledTest(AlikeCase):

    # Piece 1 is no contact, and there are none of the last two numbers.
    PIECES = (0, 1, 2, -1, 10 ** 6)

    def test_just_within(self):
        self.assertEqual(len(doubled(net_of_size(640, 799), 0, "beside").pieces()), 800)
        told = doubled(net_of_size(639, 799), 0, "behind")
        self.assertEqual((told.nodes(), len(told.pieces()), told.pieces()[-1]), (640, 800, ("made", "k", 639, 2)))

    def test_as_many_pieces_as_there_may_be(self):
        for piece, word in itertools.product(self.PIECES, WORDS):
            self.assert_refused(("pieces", 801), doubled, net_of_size(20, 800), piece, word)

    def test_as_many_nodes_as_there_may_be(self):
        for piece in self.PIECES:
            self.assert_refused(("nodes", 641), doubled, net_of_size(640, 20), piece, "behind")
        self.assertEqual(doubled(net_of_size(640, 20), 0, "beside").nodes(), 640)
        refusal(self, "NoPiece", doubled, net_of_size(640, 20), 1, "beside")

    def test_both(self):
        for piece in self.PIECES:
            self.assert_refused(("nodes", 641), doubled, net_of_size(640, 800), piece, "behind")
            self.assert_refused(("pieces", 801), doubled, net_of_size(640, 800), piece, "beside")
        for word, fault in (("behind", ("nodes", 641)), ("beside", ("pieces", 801))):
            self.assert_refused(fault, doubled, greatest_net(), 799, word)


class SlowedTest(AlikeCase):

    def assert_slowed(self, net, k):
        """Each end that was there is there still, with a run to it; where there was a round there is one."""
        told = slowed(net, k)
        self.assertIs(type(told), Net)
        times = [tuple(k * time for time in bounds) for bounds in net.times()]
        self.assertEqual(told_parts(told), {**told_parts(net), "times": times})
        for position in positions(net):
            state = state_of(position)
            (rests, told_round), (slow_rests, slow_round) = ends(net, state), ends(told, state)
            self.assertLessEqual(set(rests), set(slow_rests))
            self.assertTrue(told_round is None or slow_round is not None)
            for pulled in rests:
                self.assertIsNotNone(run_to(told, state, pulled))

    def test_times(self):
        for k, pull, fall in itertools.product(range(1, 5), ALL_BOUNDS, ALL_BOUNDS):
            net, bounds = follower(pull + fall), pull + fall
            if max(bounds) * k <= 4:
                self.assertEqual(slowed(net, k).times(), [tuple(k * time for time in bounds)])
            else:
                self.assert_refused(("times", 0), slowed, net, k)

    def test_many_nets(self):
        rounds, many_ends = 0, 0
        for seed in range(60):
            net = lively_net(seed, 1 + seed % 4)
            for k in (1, 2, 3, 4):
                chance = random.Random(seed)
                bounds = [pair for pair in ALL_BOUNDS if pair[1] * k <= 4]
                times = [chance.choice(bounds) + chance.choice(bounds) for _ in net.relays()]
                quick = Net(net.key_words(), net.relays(), net.lamps(), net.nodes(), net.pieces(), times)
                self.assert_slowed(quick, k)
                found = [ends(quick, state_of(position)) for position in positions(quick)]
                rounds += any(told_round for _, told_round in found)
                many_ends += any(len(rests) > 1 for rests, _ in found)
        self.assertGreater(rounds, 10)
        self.assertGreater(many_ends, 2)

    def test_rivals_and_buzzers(self):
        for times in ([(1, 2, 1, 1), (2, 2, 1, 2)], [(1, 1, 1, 1)] * 2, [(1, 2, 1, 2)] * 2, [(1, 2, 1, 1), (1, 2, 2, 2)]):
            self.assert_slowed(rivals(times), 2)
        for k, times in ((4, (1, 1, 1, 1)), (3, (1, 1, 1, 1)), (2, (1, 2, 2, 2)), (1, SLOWEST)):
            self.assert_slowed(buzzer(times), k)

    def test_all_as_before(self):
        net = four_buzzers()
        self.assertEqual(told_parts(slowed(net, 1)), told_parts(net))

    def test_laid_nets(self):
        table = random_table(3, 4, 2)
        self.assert_slowed(laid_plainly(table, [(1, 2, 1, 1), (1, 1, 2, 2), (2, 2, 1, 2), (1, 1, 1, 1)]), 2)

    def test_the_first_relay_that_is_too_slow(self):
        right = (1, 1, 1, 1)
        for wrong in ((1, 1, 1, 3), (1, 3, 1, 1), (3, 3, 1, 1), (1, 1, 3, 3), (4, 4, 4, 4)):
            for first in range(4):
                times = [right] * first + [wrong] + [right, (4, 4, 4, 4), wrong][:3 - first]
                net = Net([], list("abcd"), [], 2, [("coil", name, 0, 1) for name in "abcd"], times)
                self.assert_refused(("times", first), slowed, net, 2)
                self.assert_refused(("times", first), slowed, net, 4)

    def test_without_relays(self):
        net = Net(["k"], [], [], 2, [], [])
        for k in range(1, 5):
            self.assertEqual(told_parts(slowed(net, k)), told_parts(net))


class OwnListsTest(AlikeCase):

    def test_what_is_handed_in_stays(self):
        net = net_of(right_parts())
        keys, relays, lamps = ["a", "b"], ["c", "d"], ["e", "f"]
        made = [renamed(net, keys, relays, lamps), doubled(net, 0, "beside"), doubled(net, 0, "behind"), slowed(net, 1)]
        copies = [told_parts(other) for other in made]
        self.assertEqual((keys, relays, lamps), (["a", "b"], ["c", "d"], ["e", "f"]))
        for handed in (keys, relays, lamps):
            handed.clear()
        for other, name in itertools.product(made + [net], PARTS):
            if name != "nodes":
                told_parts(other)[name].clear()
        self.assertEqual([told_parts(other) for other in made], copies)
        self.assertEqual(told_parts(net), right_parts())

    def test_refused_changes_nothing(self):
        net = net_of(right_parts())
        self.assert_refused(("words", 1), renamed, net, ["a", "a"], ["c", "d"], ["e", "f"])
        self.assert_refused(("times", 0), slowed, net, 2)
        refusal(self, "NoPiece", doubled, net, 4, "behind")
        self.assertEqual(told_parts(net), right_parts())

    def test_told_alike(self):
        for one, other in zip(many_nets(), many_nets()):
            for piece in contacts_of(one)[:3]:
                self.assertEqual(told_parts(doubled(one, piece, "beside")), told_parts(doubled(other, piece, "beside")))
            self.assertEqual(told_parts(slowed(one, 1)), told_parts(slowed(other, 1)))
