import itertools
import random
import unittest

from relayholds.bynames import laid_by_names
from relayholds.current import current
from relayholds.ends import ends
from relayholds.errors import NoNet
from relayholds.fewest import fewest_names
from relayholds.nets import Net
from relayholds.pairs import raceless_names
from relayholds.races import races
from relayholds.tables import Table, pressed_by
from tests.examples import (
    ALL_BOUNDS, SLOWEST, WRONG_NAMES, random_names, random_table, refusal, settled_rows, table_of,
)
from tests.reckoning import all_bits, reach_table, reckoned_current, reckoned_span

ALL_TIMES = [pull + fall for pull, fall in itertools.product(ALL_BOUNDS, repeat=2)]
RELAYS = ["ra", "rb", "rc", "rd"]


def laid(table, names, times=None):
    places = len(names[0])
    return laid_by_names(table, names, RELAYS[:places], [SLOWEST] * places if times is None else times)


class ByNamesCase(unittest.TestCase):

    def assert_laid(self, table, names, net):
        self.assertIs(type(net), Net)
        self.assertEqual((net.key_words(), net.relays(), net.lamps()),
                         (table.key_words(), RELAYS[:len(names[0])], table.lamps()))
        keys = len(table.key_words())
        for s, x in itertools.product(range(len(names)), range(table.letters())):
            goal = names[table.goes(s, x)]
            for name in reckoned_span(names[s], goal):
                self.assertEqual(current(net, (pressed_by(keys, x), name))[0], goal)
            self.assertEqual(current(net, (pressed_by(keys, x), names[s]))[1], table.lights(s))

    def assert_ends(self, table, names, net):
        keys = len(table.key_words())
        for s, x in itertools.product(range(len(names)), range(table.letters())):
            state = (pressed_by(keys, x), names[s], (0,) * len(names[s]))
            self.assertEqual(ends(net, state), ([names[table.goes(s, x)]], None))

    def assert_all(self, table, names, times=None):
        net = laid(table, names, times)
        self.assert_laid(table, names, net)
        self.assert_ends(table, names, net)


class LaidTest(ByNamesCase):

    def test_all_tables_of_two_states_by_all_names(self):
        for columns in itertools.product(settled_rows(2), repeat=2):
            table = table_of(columns, [(0, 1), (1, 1)])
            for places in (1, 2, 3):
                for names in itertools.permutations(all_bits(places), 2):
                    if not races(table, list(names)):
                        self.assert_all(table, list(names))

    def test_all_tables_of_one_letter(self):
        for states in (2, 3, 4):
            lights = [(1, 0), (0, 1), (0, 0), (1, 1)][:states]
            for column in settled_rows(states):
                table = table_of([column], lights)
                for names in (raceless_names(table), fewest_names(table)[0]):
                    self.assert_all(table, names)

    def test_many_tables_by_many_names(self):
        """All names without a race do, not just those that are told; with a race they are refused."""
        places, raced = set(), 0
        for seed in range(200):
            table, chance = random_table(seed), random.Random(seed)
            for names in (raceless_names(table), fewest_names(table)[0], random_names(chance, len(table.states()))):
                if races(table, names):
                    raced += 1
                    self.assertEqual(refusal(self, "Raced", laid, table, names).race, races(table, names)[0])
                else:
                    places.add(len(names[0]))
                    self.assert_all(table, names, [chance.choice(ALL_TIMES) for _ in names[0]])
        self.assertEqual(places, {1, 2, 3, 4})
        self.assertGreater(raced, 30)

    def test_four_places_as_slow_and_as_quick_as_may_be(self):
        table = table_of([(1, 1, 3, 3), (2, 3, 2, 3), (3, 2, 2, 3), (0, 1, 2, 3)], [(0, 0), (0, 1), (1, 0), (1, 1)])
        for names in ([(0, 0, 0, 1), (0, 1, 1, 1), (1, 0, 1, 0), (1, 1, 0, 0)],
                      [(1, 1, 1, 0), (1, 0, 0, 1), (0, 1, 0, 0), (0, 0, 1, 1)]):
            self.assert_all(table, names)
            self.assert_all(table, names, [(1, 1, 4, 4), (4, 4, 1, 1), (1, 4, 2, 2), (2, 3, 1, 4)])

    def test_as_many_rows_as_there_can_be(self):
        """By each letter all states go to the one whose name is all 1."""
        table = table_of([(3, 3, 3, 3)] * 4, [(1, 1)] * 4)
        for names in ([(0, 1, 1, 1), (1, 0, 1, 1), (1, 1, 0, 1), (1, 1, 1, 1)],
                      [(0, 0, 0, 0), (1, 0, 0, 0), (0, 1, 0, 0), (1, 1, 1, 1)]):
            self.assert_all(table, names)

    def test_no_keys_and_no_place_that_agrees(self):
        for column, names in (((1, 1), [(0,), (1,)]), ((0, 0), [(0,), (1,)]), ((1, 1), [(0, 1, 0), (1, 0, 1)])):
            self.assert_all(table_of([column], [(0, 1), (1, 0)]), names)

    def test_all_lights(self):
        for lamps in (0, 1, 2):
            for lights in itertools.product(itertools.product((0, 1), repeat=lamps), repeat=3):
                table = table_of([(0, 1, 2), (0, 0, 0)], list(lights))
                self.assert_laid(table, [(0, 0), (1, 0), (0, 1)], laid(table, [(0, 0), (1, 0), (0, 1)]))

    def test_all_times(self):
        table = table_of([(1, 1), (0, 0), (0, 1), (1, 1)], [(0,), (1,)])
        for one, other in itertools.product(ALL_TIMES, ((1, 1, 1, 1), (4, 4, 4, 4), (1, 4, 2, 3))):
            for times in ([one, other], [other, one]):
                names = [(0, 1), (1, 0)]
                net = laid(table, names, times)
                self.assertEqual(net.times(), times)
                self.assert_ends(table, names, net)

    def test_current_by_the_words_of_the_document(self):
        for columns, names in (([(1, 1)], [(0, 0), (1, 1)]), ([(0, 1), (1, 1)], [(0, 1), (1, 0)]),
                               ([(0, 0, 2)], [(0, 0), (0, 1), (1, 1)])):
            table = table_of(columns, [(1,), (0,), (1,)][:len(names)])
            net, keys = laid(table, names), len(table.key_words())
            for s, x in itertools.product(range(len(names)), range(table.letters())):
                goal = names[table.goes(s, x)]
                for name in reckoned_span(names[s], goal):
                    reach = reach_table(net, (pressed_by(keys, x), name))
                    self.assertEqual(reckoned_current(net, reach, "coil", net.relays()), goal)
                reach = reach_table(net, (pressed_by(keys, x), names[s]))
                self.assertEqual(reckoned_current(net, reach, "lamp", net.lamps()), table.lights(s))

    def test_letters_one_behind_another(self):
        for seed in range(20):
            table, chance, s = random_table(seed, 4, 2), random.Random(seed), 0
            names = fewest_names(table)[0]
            net = laid(table, names)
            for _ in range(12):
                x = chance.randrange(4)
                told = ends(net, (pressed_by(2, x), names[s], (0,) * len(names[s])))
                s = table.goes(s, x)
                self.assertEqual(told, ([names[s]], None))


def right_parts():
    """A table's keys, states and lamps, with names of two places that have no race."""
    table = Table(["on", "off"], ["idle", "warm", "hot"], ["red", "green"],
                  [[0, 1, 0, 0], [1, 1, 0, 1], [2, 2, 0, 2]], [(0, 0), (0, 1), (1, 1)])
    return {"table": table, "names": [(0, 0), (0, 1), (1, 0)], "relays": ["one", "other"], "times": [SLOWEST] * 2}


RACED_NAMES = [(0, 0), (1, 1), (0, 1)]

# For each refusal, in the order in which they are due, what brings it about and its fault.
SPOILERS = [
    ("NoNet", ("words", 2), {"relays": ["on", "other"]}),
    ("NoNet", ("words", 3), {"relays": ["one", "one"]}),
    ("NoNet", ("words", 5), {"relays": ["one", "green"]}),
    ("NoNet", ("many", 1), {"relays": list("abcde"), "times": [SLOWEST] * 5}),
    ("NoNet", ("times", 1), {"times": [SLOWEST, (1, 5, 1, 1)]}),
    ("NoNet", ("times", 3), {"times": [SLOWEST] * 3}),
    ("NoNames", None, {"names": [(0, 0), (0, 1)]}),
    ("NoNames", None, {"names": [(0, 0, 0), (0, 0, 1), (0, 1, 0)]}),
    ("Raced", None, {"names": RACED_NAMES}),
]


class RefusalsTest(ByNamesCase):

    def refused(self, name, changes):
        parts = right_parts()
        parts.update(changes)
        return refusal(self, name, laid_by_names, parts["table"], parts["names"], parts["relays"], parts["times"])

    def test_right_ones_are_not_refused(self):
        parts = right_parts()
        net = laid_by_names(parts["table"], parts["names"], parts["relays"], parts["times"])
        self.assertEqual((net.relays(), net.times()), (parts["relays"], parts["times"]))

    def test_words(self):
        for word in ("", "ninesigns", "A", "a b", "a1", "1", "on ", "\n", "~"):
            for at in range(2):
                relays = ["one", "other"]
                relays[at] = word
                self.assertEqual(self.refused("NoNet", {"relays": relays}).fault, ("words", 2 + at))

    def test_words_that_stand_twice(self):
        for relays, number in ((["on", "one"], 2), (["one", "off"], 3), (["one", "one"], 3), (["off", "on"], 2),
                               (["red", "one"], 4), (["one", "green"], 5), (["green", "red"], 4), (["red", "red"], 3)):
            self.assertEqual(self.refused("NoNet", {"relays": relays}).fault, ("words", number))

    def test_words_of_states_are_free(self):
        parts = right_parts()
        net = laid_by_names(parts["table"], parts["names"], ["hot", "idle"], parts["times"])
        self.assertEqual(net.relays(), ["hot", "idle"])

    def test_too_many_relays(self):
        for many in (5, 6, 900):
            relays = ["".join(word) for word in itertools.product("abcdefghij", repeat=3)][:many]
            for times in ([SLOWEST] * many, [], [SLOWEST] * 4):
                self.assertEqual(self.refused("NoNet", {"relays": relays, "times": times}).fault, ("many", 1))

    def test_times(self):
        for wrong in ((), (1, 2, 1), (1, 2, 1, 2, 1), (0, 1, 1, 1), (1, 5, 1, 1), (2, 1, 1, 1), (1, 1, 4, 3),
                      (1, 1, -1, 1), (1, 1, 1, 10 ** 20)):
            self.assertEqual(self.refused("NoNet", {"times": [wrong, SLOWEST]}).fault, ("times", 0))
            self.assertEqual(self.refused("NoNet", {"times": [SLOWEST, wrong]}).fault, ("times", 1))
        for many in (0, 1, 3, 4, 7):
            self.assertEqual(self.refused("NoNet", {"times": [SLOWEST] * many}).fault, ("times", many))

    def test_faults_are_those_of_a_net(self):
        table = right_parts()["table"]
        words = ["one", "other", "on", "red", "", "third", "one", "x1"]
        wrong_times = [[], [SLOWEST], [SLOWEST] * 2, [SLOWEST, (0,)], [SLOWEST] * 5]
        for many in range(4):
            for relays, times in itertools.product(itertools.product(words, repeat=many), wrong_times):
                pieces = [("coil", name, 0, 1) for name in relays] + [("lamp", name, 0, 1) for name in table.lamps()]
                parts = (table.key_words(), list(relays), table.lamps(), 2, pieces, times)
                try:
                    Net(*parts)
                except NoNet as fault:
                    told = self.refused("NoNet", {"relays": list(relays), "times": times}).fault
                    self.assertEqual(told, fault.fault)
                    self.refused("NoNet", {"relays": list(relays), "times": times, "names": []})

    def test_no_names(self):
        for names in WRONG_NAMES:
            self.refused("NoNames", {"names": names})

    def test_relays_that_are_not_as_many_as_places(self):
        for many in (0, 1, 3, 4):
            for names in (right_parts()["names"], RACED_NAMES):
                self.refused("NoNames", {"relays": RELAYS[:many], "times": [SLOWEST] * many, "names": names})

    def test_raced(self):
        table = right_parts()["table"]
        found = races(table, RACED_NAMES)
        self.assertEqual(self.refused("Raced", {"names": RACED_NAMES}).race, found[0])
        table = table_of([(1, 1, 3, 3), (0, 1, 2, 3)], [()] * 4)
        refused = self.refused("Raced", {"table": table, "names": [(0, 0), (1, 1), (0, 1), (1, 0)]})
        self.assertEqual(refused.race, (0, 0, 2, (0, 0)))

    def test_single_faults(self):
        for name, fault, changes in SPOILERS:
            refused = self.refused(name, changes)
            if fault is not None:
                self.assertEqual(refused.fault, fault)

    def test_two_faults_at_once(self):
        for (name, fault, changes), (_, _, others) in itertools.combinations(SPOILERS, 2):
            refused = self.refused(name, {**others, **changes})
            if fault is not None:
                self.assertEqual(refused.fault, fault)

    def test_refused_changes_nothing(self):
        for name, _, changes in SPOILERS:
            parts = right_parts()
            parts.update({key: list(value) for key, value in changes.items()})
            copy = {key: list(parts[key]) for key in ("names", "relays", "times")}
            refusal(self, name, laid_by_names, parts["table"], parts["names"], parts["relays"], parts["times"])
            self.assertEqual({key: parts[key] for key in copy}, copy)
            self.test_right_ones_are_not_refused()


class OwnListsTest(ByNamesCase):

    def test_lists_handed_in_are_changed_later(self):
        table, times, relays = random_table(9, 4, 2), [(1, 2, 3, 4)] * 3, RELAYS[:3]
        names = raceless_names(table)
        net = laid_by_names(table, names, relays, times)
        self.assertEqual((names, relays, times), (raceless_names(table), RELAYS[:3], [(1, 2, 3, 4)] * 3))
        pieces = net.pieces()
        for handed in (names, relays, times):
            handed.clear()
        net.pieces().clear()
        self.assertEqual((net.times(), net.pieces()), ([(1, 2, 3, 4)] * 3, pieces))
        self.assert_laid(table, raceless_names(table), net)

    def test_like_tables_are_laid_alike(self):
        for seed in range(30):
            one, other = random_table(seed), random_table(seed)
            nets = [laid(table, raceless_names(table)) for table in (one, other, one)]
            for net in nets:
                self.assertEqual((net.nodes(), net.pieces()), (nets[0].nodes(), nets[0].pieces()))
