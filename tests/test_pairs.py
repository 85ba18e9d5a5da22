import itertools
import unittest

from relayholds.names import are_parted
from relayholds.pairs import pairs, raceless_names
from relayholds.races import races
from tests.examples import random_table, settled_rows, table_of
from tests.reckoning import reckoned_pairs, reckoned_parted


def many_tables():
    """All tables of one letter, all of two states, and many others."""
    for states in (2, 3, 4):
        for column in settled_rows(states):
            yield table_of([column], [()] * states)
    for letters in (2, 4):
        for columns in itertools.product(settled_rows(2), repeat=letters):
            yield table_of(columns, [()] * 2)
    for columns in itertools.product(settled_rows(3), repeat=2):
        yield table_of(columns, [()] * 3)
    for seed in range(150):
        yield random_table(seed, 3 + seed % 2, 2 - seed % 5 // 4)


class PairsTest(unittest.TestCase):

    def test_many_tables(self):
        for table in many_tables():
            told = pairs(table)
            self.assertEqual(told, reckoned_pairs(table))
            self.assertIs(type(told), list)
            self.assertEqual(told, sorted(set(told)))
            self.assertEqual({type(part) for pair in told for part in (pair,) + pair}, {tuple})

    def test_a_few(self):
        self.assertEqual(pairs(table_of([(1, 1)], [(), ()])), [((0, 0), (1, 1))])
        self.assertEqual(pairs(table_of([(0, 0, 2)], [()] * 3)),
                         [((0, 0), (1, 1)), ((0, 0), (2, 2)), ((1, 0), (2, 2)), ((1, 1), (2, 2))])
        self.assertEqual(pairs(table_of([(1, 1, 3, 3)], [()] * 4)), sorted([
            ((0, 1), (2, 3)), ((0, 1), (3, 3)), ((1, 1), (2, 3)),
            ((0, 0), (1, 1)), ((0, 0), (2, 2)), ((0, 0), (3, 3)),
            ((1, 1), (2, 2)), ((1, 1), (3, 3)), ((2, 2), (3, 3))]))

    def test_the_same_pair_by_several_letters_is_told_once(self):
        one, four = table_of([(1, 1, 2)], [()] * 3), table_of([(1, 1, 2)] * 4, [()] * 3)
        self.assertEqual(pairs(four), pairs(one))

    def test_goings_on_of_two_letters_are_no_pair(self):
        told = pairs(table_of([(1, 1, 2), (0, 1, 1)], [()] * 3))
        self.assertIn(((0, 1), (2, 2)), told)
        self.assertIn(((0, 0), (2, 1)), told)
        self.assertNotIn(((0, 1), (2, 1)), told)


class RacelessNamesTest(unittest.TestCase):

    def test_many_tables(self):
        for table in many_tables():
            names = raceless_names(table)
            self.assertIs(type(names), list)
            self.assertEqual(len(names), len(table.states()))
            self.assertEqual(len(set(names)), len(names))
            self.assertEqual(len({len(name) for name in names}), 1)
            self.assertIn(len(names[0]), range(1, 5))
            self.assertLessEqual({bit for name in names for bit in name}, {0, 1})
            self.assertEqual(races(table, names), [])
            for one, other in reckoned_pairs(table):
                self.assertTrue(reckoned_parted(names, one, other))
                self.assertTrue(are_parted(names, one, other))

    def test_four_states_with_all_pairs_there_can_be(self):
        """By each letter two states go to the two others, each time otherwise."""
        for columns in ([(1, 1, 3, 3), (2, 3, 2, 3), (3, 2, 2, 3), (0, 1, 2, 3)],
                        [(0, 0, 2, 2), (0, 1, 0, 1), (0, 1, 1, 0), (1, 1, 1, 3)]):
            table = table_of(columns, [()] * 4)
            names = raceless_names(table)
            self.assertEqual(races(table, names), [])
            self.assertTrue(all(reckoned_parted(names, one, other) for one, other in reckoned_pairs(table)))


class OwnListsTest(unittest.TestCase):

    def test_told_lists_are_the_askers_own(self):
        table = random_table(11, 4, 2)
        for function in (pairs, raceless_names):
            told = function(table)
            copy = list(told)
            told.reverse()
            told.pop()
            self.assertEqual(function(table), copy)

    def test_told_alike(self):
        for seed in range(30):
            one, other = random_table(seed), random_table(seed)
            self.assertEqual((pairs(one), raceless_names(one)), (pairs(other), raceless_names(other)))
            self.assertEqual((pairs(one), raceless_names(one)), (pairs(one), raceless_names(one)))
