import itertools
import unittest

from relayholds.fewest import fewest_names
from relayholds.pairs import raceless_names
from relayholds.races import races
from tests.examples import random_table, settled_rows, table_of
from tests.reckoning import all_bits, reckoned_pairs, reckoned_parted


def part_all(names, pairs):
    return all(reckoned_parted(names, one, other) for one, other in pairs)


def reckoned_paper(table, many):
    """Each tuple of so many ways, by all tries, with the first pair that none of them parts."""
    states = len(table.states())
    right = [way for way in all_bits(states) if way[0] == 0 and any(way)]
    paper = []
    for ways in itertools.product(right, repeat=many):
        if list(ways) == sorted(set(ways)):
            names = [tuple(way[s] for way in ways) for s in range(states)]
            pair = [pair for pair in reckoned_pairs(table) if not reckoned_parted(names, *pair)][0]
            paper.append((ways, pair))
    return sorted(paper)


class FewestCase(unittest.TestCase):

    def assert_fewest(self, table):
        told = fewest_names(table)
        self.assertEqual((type(told), len(told)), (tuple, 2))
        names, paper = told
        states, pairs = len(table.states()), reckoned_pairs(table)
        self.assertEqual((type(names), len(names), {type(name) for name in names}), (list, states, {tuple}))
        places = len(names[0])
        self.assertTrue(1 <= places <= len(raceless_names(table)[0]))
        self.assertTrue(all(len(name) == places and set(name) <= {0, 1} for name in names))
        self.assertTrue(part_all(names, pairs))
        self.assertEqual(races(table, names), [])
        self.assertEqual(len(set(names)), states)
        for fewer in range(1, places):
            for others in itertools.product(all_bits(fewer), repeat=states):
                self.assertFalse(part_all(others, pairs))
        self.assertIs(type(paper), list)
        self.assertEqual(paper, reckoned_paper(table, places - 1))
        return places


class ManyTablesTest(FewestCase):

    def test_all_tables_of_one_letter(self):
        for states in (2, 3, 4):
            for column in settled_rows(states):
                self.assert_fewest(table_of([column], [()] * states))

    def test_all_tables_of_two_states(self):
        for letters in (2, 4):
            for columns in itertools.product(settled_rows(2), repeat=letters):
                self.assertEqual(self.assert_fewest(table_of(columns, [(), ()])), 1)

    def test_many_tables(self):
        found = {self.assert_fewest(random_table(seed, 3 + seed % 2, 1 + seed % 3 // 2)) for seed in range(60)}
        self.assertEqual(found, {2, 3})

    def test_names_of_fewer_places_have_a_race(self):
        for seed in range(40):
            table = random_table(seed, 3 + seed % 2, 2)
            places = len(fewest_names(table)[0][0])
            for fewer in range(1, places):
                for names in itertools.permutations(all_bits(fewer), len(table.states())):
                    self.assertNotEqual(races(table, list(names)), [])


class FewTablesTest(FewestCase):

    def test_one_place(self):
        for columns in ([(0, 1)], [(1, 1), (0, 0)], [(0, 0)] * 4):
            names, paper = fewest_names(table_of(columns, [(), ()]))
            self.assertIn(names, ([(0,), (1,)], [(1,), (0,)]))
            self.assertEqual(paper, [((), ((0, 0), (1, 1)))])

    def test_two_places(self):
        names, paper = fewest_names(table_of([(1, 1, 2)], [()] * 3))
        self.assertEqual(len(names[0]), 2)
        self.assertEqual(paper, [(((0, 0, 1),), ((0, 0), (1, 1))), (((0, 1, 0),), ((0, 0), (2, 2))),
                                 (((0, 1, 1),), ((0, 1), (2, 2)))])

    def test_three_states_with_three_places(self):
        """Each state stays against a going on of the two others."""
        table = table_of([(1, 1, 2), (2, 1, 2), (0, 2, 2), (0, 1, 2)], [()] * 3)
        self.assertEqual(self.assert_fewest(table), 3)
        self.assertEqual([ways for ways, _ in fewest_names(table)[1]],
                         [((0, 0, 1), (0, 1, 0)), ((0, 0, 1), (0, 1, 1)), ((0, 1, 0), (0, 1, 1))])

    def test_four_states_with_two_and_three_places(self):
        self.assertEqual(self.assert_fewest(table_of([(1, 1, 3, 3), (2, 3, 2, 3)], [()] * 4)), 2)
        table = table_of([(1, 1, 3, 3), (2, 3, 2, 3), (3, 2, 2, 3), (0, 1, 2, 3)], [()] * 4)
        self.assertEqual(self.assert_fewest(table), 3)
        self.assertEqual(len(fewest_names(table)[1]), 21)


class OwnListsTest(FewestCase):

    def test_told_lists_are_the_askers_own(self):
        table = random_table(4, 4, 2)
        names, paper = fewest_names(table)
        copy = (list(names), list(paper))
        names.clear()
        paper.clear()
        self.assertEqual(fewest_names(table), copy)

    def test_told_alike(self):
        for seed in range(30):
            self.assertEqual(fewest_names(random_table(seed)), fewest_names(random_table(seed)))
