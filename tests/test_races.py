import itertools
import random
import unittest

from relayholds.names import are_parted
from relayholds.races import races, steps
from tests.examples import WRONG_NAMES, random_names, random_table, refusal, settled_rows, table_of
from tests.reckoning import all_bits, reckoned_parted, reckoned_span


def goings(table, x):
    return [(s, table.goes(s, x)) for s in range(len(table.states()))]


def reckoned_races(table, names):
    """Each name is tried with each letter and each two states; of each two the least name counts."""
    found = {}
    for x in range(table.letters()):
        for (s, t), (u, v) in itertools.product(goings(table, x), repeat=2):
            if s < u and t != v:
                for name in all_bits(len(names[0])):
                    if name in reckoned_span(names[s], names[t]) and name in reckoned_span(names[u], names[v]):
                        found.setdefault((x, s, u), []).append(name)
    return sorted(key + (min(both),) for key, both in found.items())


def fewest_steps(within, start, goal):
    """How many names there are at least from start to goal, one place changed each time."""
    many, level = 1, {start}
    while goal not in level:
        level |= {name for name in within for other in level if sum(a != b for a, b in zip(name, other)) == 1}
        many += 1
    return many


def tables_with_names():
    """Tables of 2 to 4 states and 0 to 2 keys, each with a few names of each length that does."""
    for seed, states, keys in itertools.product(range(12), range(2, 5), range(3)):
        table, chance = random_table(seed, states, keys), random.Random(seed)
        for places in range(1, 5):
            if 2 ** places >= states:
                yield table, chance.sample(all_bits(places), states)


class RacesTest(unittest.TestCase):

    def assert_races(self, table, names):
        told = races(table, names)
        self.assertEqual(told, reckoned_races(table, names))
        self.assertIs(type(told), list)
        self.assertEqual({type(part) for race in told for part in (race, race[3])} - {tuple}, set())
        unlike = [(one, other) for x in range(table.letters())
                  for one, other in itertools.combinations(goings(table, x), 2) if one[1] != other[1]]
        self.assertEqual(told == [], all(reckoned_parted(names, *pair) for pair in unlike))
        self.assertEqual(told == [], all(are_parted(names, *pair) for pair in unlike))

    def test_many_tables(self):
        with_a_race, without = 0, 0
        for table, names in tables_with_names():
            self.assert_races(table, names)
            with_a_race += races(table, names) != []
            without += races(table, names) == []
        self.assertGreater(with_a_race, 50)
        self.assertGreater(without, 50)

    def test_all_tables_of_one_letter_by_two_places(self):
        for column in settled_rows(4):
            for names in itertools.permutations(all_bits(2)):
                self.assert_races(table_of([column], [()] * 4), list(names))

    def test_all_tables_of_two_states(self):
        for columns in itertools.product(settled_rows(2), repeat=2):
            table = table_of(columns, [(), ()])
            for places in range(1, 5):
                for names in itertools.permutations(all_bits(places), 2):
                    self.assert_races(table, list(names))

    def test_a_few(self):
        table = table_of([(1, 1, 3, 3), (0, 1, 2, 3)], [()] * 4)
        self.assertEqual(races(table, [(0, 0), (1, 1), (0, 1), (1, 0)]),
                         [(0, 0, 2, (0, 0)), (0, 0, 3, (1, 0)), (0, 1, 2, (1, 1))])
        self.assertEqual(races(table, [(0, 0), (0, 1), (1, 1), (1, 0)]), [])
        self.assertEqual(races(table, [(0, 0, 1, 1), (0, 1, 0, 1), (1, 0, 1, 1), (1, 1, 0, 0)]), [])

    def test_a_race_with_one_that_stays(self):
        table = table_of([(0, 1, 2), (1, 1, 2)], [()] * 3)
        self.assertEqual(races(table, [(0, 0), (1, 1), (0, 1)]), [(1, 0, 2, (0, 1))])
        self.assertEqual(races(table, [(1, 1), (0, 0), (1, 0)]), [(1, 0, 2, (1, 0))])
        self.assertEqual(races(table, [(0, 0), (0, 1), (1, 1)]), [])

    def test_alike_ends_are_no_race(self):
        table = table_of([(2, 2, 2)], [()] * 3)
        for names in itertools.permutations(all_bits(2), 3):
            self.assertEqual(races(table, list(names)), [])


class StepsTest(unittest.TestCase):

    def assert_steps(self, table, names, race):
        x, s, u, name = race
        told = steps(table, names, race)
        self.assertEqual((type(told), len(told), {type(part) for part in told}), (tuple, 2, {list}))
        self.assertIsNot(told[0], told[1])
        for start, row in zip((s, u), told):
            within = reckoned_span(names[start], names[table.goes(start, x)])
            self.assertEqual((row[0], row[-1]), (names[start], name))
            self.assertTrue(set(row) <= set(within))
            for one, other in zip(row, row[1:]):
                self.assertEqual(sum(a != b for a, b in zip(one, other)), 1)
            self.assertEqual(len(row), fewest_steps(within, names[start], name))

    def test_all_races_of_many_tables(self):
        lengths = set()
        for table, names in tables_with_names():
            for race in races(table, names):
                self.assert_steps(table, names, race)
                lengths |= {len(row) for row in steps(table, names, race)}
        self.assertLessEqual({1, 2, 3, 4}, lengths)

    def test_a_few(self):
        table = table_of([(1, 1, 3, 3)], [()] * 4)
        names = [(0, 0, 0), (1, 1, 1), (0, 1, 1), (1, 0, 0)]
        self.assertEqual(races(table, names)[0], (0, 0, 2, (0, 0, 0)))
        first, second = steps(table, names, (0, 0, 2, (0, 0, 0)))
        self.assertEqual(first, [(0, 0, 0)])
        self.assertIn(second, ([(0, 1, 1), (0, 0, 1), (0, 0, 0)], [(0, 1, 1), (0, 1, 0), (0, 0, 0)]))


class RefusalsTest(unittest.TestCase):

    def test_no_names(self):
        for keys in range(3):
            table = random_table(5, 3, keys)
            for names in WRONG_NAMES:
                refusal(self, "NoNames", races, table, names)
                for race in ((0, 0, 1, (0, 0)), (0, 1, 2, (0, 1)), (9, 9, 9, ()), (0, 0, 1, (0,) * 5), (-1, 7, 0, (2,))):
                    refusal(self, "NoNames", steps, table, names, race)

    def test_how_many_names(self):
        for states, many in itertools.product(range(2, 5), range(7)):
            names = all_bits(3)[:many]
            if many == states:
                self.assertEqual(races(table_of([tuple(range(states))], [()] * states), names), [])
            else:
                refusal(self, "NoNames", races, random_table(3, states, 1), names)

    def test_how_many_places(self):
        table = table_of([(0, 0)], [(), ()])
        for places in range(8):
            names = [(0,) * places, (1,) * places]
            if 1 <= places <= 4:
                self.assertEqual(races(table, names), [])
            else:
                refusal(self, "NoNames", races, table, names)

    def test_each_number_at_each_place(self):
        table = random_table(7, 4, 2)
        for s, at, number in itertools.product(range(4), range(3), (-1, 2, 3, 10 ** 20)):
            names = [list(name) for name in all_bits(3)[2:6]]
            names[s][at] = number
            refusal(self, "NoNames", races, table, [tuple(name) for name in names])

    def test_each_two_alike(self):
        table = random_table(8, 4, 2)
        for s, u in itertools.combinations(range(4), 2):
            names = all_bits(3)[2:6]
            names[u] = names[s]
            refusal(self, "NoNames", races, table, names)
            refusal(self, "NoNames", steps, table, names, (0, s, u, names[s]))


class OwnListsTest(unittest.TestCase):

    def test_lists_stay_and_are_the_askers_own(self):
        table = table_of([(1, 1, 3, 3), (0, 1, 2, 3)], [()] * 4)
        names = [(0, 0), (1, 1), (0, 1), (1, 0)]
        copy = list(names)
        told = races(table, names)
        race, kept = told[0], list(told)
        told.clear()
        self.assertEqual(races(table, names), kept)
        rows = steps(table, names, race)
        kept = (list(rows[0]), list(rows[1]))
        rows[0].append(5)
        rows[1].clear()
        self.assertEqual(steps(table, names, race), kept)
        self.assertEqual(names, copy)
        names[1], names[2] = names[2], names[1]
        self.assertEqual(rows, (kept[0] + [5], []))
        self.assertEqual([table.goes(s, 0) for s in range(4)], [1, 1, 3, 3])

    def test_told_alike(self):
        for seed in range(30):
            one, other = random_table(seed), random_table(seed)
            names = random_names(random.Random(seed), len(one.states()))
            told = races(one, names)
            self.assertEqual(races(other, list(names)), told)
            for race in told:
                self.assertEqual(steps(one, names, race), steps(other, list(names), race))
