import itertools
import random
import unittest

from relayholds.names import are_parted, span
from tests.examples import random_names, random_table
from tests.reckoning import all_bits, reckoned_parted, reckoned_span


class SpanTest(unittest.TestCase):

    def test_all_names(self):
        for places in range(1, 5):
            for one, other in itertools.product(all_bits(places), repeat=2):
                told = span(one, other)
                self.assertEqual(told, reckoned_span(one, other))
                self.assertEqual(told, sorted(set(told)))
                self.assertIs(type(told), list)
                self.assertEqual({type(name) for name in told}, {tuple})

    def test_a_few(self):
        self.assertEqual(span((0, 1, 1), (0, 1, 1)), [(0, 1, 1)])
        self.assertEqual(span((0, 1, 1), (1, 1, 0)), [(0, 1, 0), (0, 1, 1), (1, 1, 0), (1, 1, 1)])
        self.assertEqual(span((1,), (0,)), [(0,), (1,)])
        self.assertEqual(span((0, 0, 0, 0), (1, 1, 1, 1)), all_bits(4))

    def test_told_list_is_the_askers_own(self):
        span((0, 1), (1, 1)).clear()
        self.assertEqual(span((0, 1), (1, 1)), [(0, 1), (1, 1)])


class ArePartedTest(unittest.TestCase):

    def assert_parted(self, names, one, other):
        told = are_parted(names, one, other)
        self.assertIs(told, reckoned_parted(names, one, other))
        self.assertIs(are_parted(names, other, one), told)
        # Parted are just those between which no name lies in common.
        self.assertIs(told, not set(span(names[one[0]], names[one[1]])) & set(span(names[other[0]], names[other[1]])))

    def test_all_pairs_of_many_names(self):
        for seed in range(120):
            chance = random.Random(seed)
            states = chance.randrange(2, 5)
            names = random_names(chance, states)
            goings = list(itertools.product(range(states), repeat=2))
            for one, other in itertools.product(goings, repeat=2):
                self.assert_parted(names, one, other)

    def test_a_few(self):
        names = [(0, 0), (0, 1), (1, 0), (1, 1)]
        self.assertIs(are_parted(names, (0, 1), (2, 3)), True)
        self.assertIs(are_parted(names, (0, 2), (1, 3)), True)
        self.assertIs(are_parted(names, (0, 3), (1, 2)), False)
        self.assertIs(are_parted(names, (0, 3), (1, 1)), False)
        self.assertIs(are_parted(names, (0, 1), (1, 1)), False)
        self.assertIs(are_parted(names, (0, 0), (1, 1)), True)
        self.assertIs(are_parted(names, (0, 0), (0, 0)), False)

    def test_goings_on_of_tables(self):
        for seed in range(30):
            table, chance = random_table(seed), random.Random(seed)
            names = random_names(chance, len(table.states()))
            for x in range(table.letters()):
                goings = [(s, table.goes(s, x)) for s in range(len(table.states()))]
                for one, other in itertools.combinations(goings, 2):
                    self.assert_parted(names, one, other)

    def test_what_is_handed_in_stays(self):
        names = [(0, 0), (0, 1), (1, 0)]
        self.assertIs(are_parted(names, (0, 1), (2, 2)), True)
        self.assertEqual(names, [(0, 0), (0, 1), (1, 0)])
        names[2] = (0, 0)
        self.assertIs(are_parted(names, (0, 1), (2, 2)), False)
