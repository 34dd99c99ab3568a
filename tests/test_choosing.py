"""Point 6.4, and the heading unpartedrows/choosing.py."""

import itertools
import random
import time
import unittest

import brute
from samples import BAD_SETS, HUGE, NO_NUMBERS
from unpartedrows.choosing import greatest_choice
from unpartedrows.errors import InvalidTable, OutOfRange
from unpartedrows.papers import paper_for
from unpartedrows.reducing import tree_of
from unpartedrows.tables import first_parted
from unpartedrows.telling import least_order

# Of these pairs of three things two fit together, whichever they are.
TRIANGLE = ((0, 1), (0, 2), (1, 2))


class FewThings(unittest.TestCase):
    def hold(self, n, sets):
        found = greatest_choice(n, sets)
        self.assertIs(type(found), tuple)
        self.assertEqual(found, brute.greatest_choice(n, sets))

    def test_all_tables_of_three_things(self):
        for many in range(4):
            for sets in itertools.product(brute.sets_below(3), repeat=many):
                self.hold(3, sets)

    def test_up_to_three_sets_of_four_things(self):
        kept = [chosen for chosen in brute.sets_below(4) if 1 < len(chosen) < 4]
        for many in range(4):
            for sets in itertools.permutations(kept, many):
                self.hold(4, sets)

    def test_drawn_tables(self):
        chance = random.Random(111)
        for n in (1, 2, 4, 5, 6):
            for _ in range(60):
                self.hold(n, brute.drawn_sets(n, chance.randint(0, 8), chance))
        pairs = list(itertools.combinations(range(5), 2))
        for _ in range(60):
            self.hold(5, tuple(chance.choice(pairs) for _ in range(8)))

    def test_any_sequence_of_the_sets(self):
        for sets in itertools.permutations(((0, 1), (1, 2), (0, 2), (2, 3), (0, 1, 3))):
            self.hold(4, sets)


class Edges(unittest.TestCase):
    def test_no_sets(self):
        for n in range(1, 25):
            self.assertEqual(greatest_choice(n, ()), ())

    def test_sets_that_all_fit(self):
        chance = random.Random(112)
        for n in (1, 2, 5, 24):
            for many in range(9):
                self.assertEqual(greatest_choice(n, brute.drawn_stretches(n, many, chance)), tuple(range(many)))
        self.assertEqual(greatest_choice(3, ((), (0,), (0, 1, 2), (1, 2))), (0, 1, 2, 3))

    def test_sets_of_which_no_two_differ(self):
        for chosen in ((), (0,), (0, 2), (0, 1, 2, 3)):
            for many in range(9):
                self.assertEqual(greatest_choice(4, (chosen,) * many), tuple(range(many)))

    def test_of_several_the_first_one(self):
        self.assertEqual(greatest_choice(3, TRIANGLE), (0, 1))
        self.assertEqual(greatest_choice(3, TRIANGLE[::-1]), (0, 1))
        self.assertEqual(greatest_choice(4, TRIANGLE + ((0, 3), (1, 3), (2, 3))), (0, 1, 4))
        self.assertEqual(greatest_choice(3, TRIANGLE + (TRIANGLE[2],)), (0, 2, 3))
        self.assertEqual(greatest_choice(3, TRIANGLE + (TRIANGLE[0],)), (0, 1, 3))
        self.assertEqual(greatest_choice(4, ((0, 1, 2),) + TRIANGLE + ((), (0, 1, 2, 3))), (0, 1, 2, 4, 5))
        self.assertEqual(greatest_choice(3, TRIANGLE * 2 + TRIANGLE[:2]), (0, 1, 3, 4, 6, 7))

    def test_only_one_of_several_sets_fits_with_the_others(self):
        self.assertEqual(greatest_choice(4, ((0, 1), (0, 2), (0, 3))), (0, 1))
        self.assertEqual(greatest_choice(5, ((0, 1), (2, 3), (0, 2), (1, 3))), (0, 1, 2))
        self.assertEqual(greatest_choice(4, ((0, 3), (0, 1), (1, 2), (2, 3))), (0, 1, 2))
        self.assertEqual(greatest_choice(4, ((0, 2), (1, 3), (0, 1), (2, 3))), (0, 1, 2))


class WhatIsChosen(unittest.TestCase):
    """Points 3.1 and 3.2 with 6.4."""

    def test_each_chosen_set_is_fitted_and_no_further_one(self):
        chance = random.Random(113)
        for n in (3, 6, 12, 24):
            for _ in range(25):
                sets = brute.drawn_stretches(n, 5, chance) + brute.drawn_sets(n, 3, chance)
                choice = greatest_choice(n, sets)
                chosen = tuple(sets[index] for index in choice)
                self.assertIsNone(first_parted(least_order(tree_of(n, chosen)), chosen))
                self.assertIsNone(paper_for(n, chosen))
                for index in set(range(8)) - set(choice):
                    self.assertIsNotNone(paper_for(n, chosen + (sets[index],)))

    def test_all_are_chosen_exactly_if_there_is_no_paper(self):
        chance = random.Random(114)
        for _ in range(200):
            sets = brute.drawn_sets(5, 3, chance)
            self.assertEqual(len(greatest_choice(5, sets)) == 3, paper_for(5, sets) is None)


class HowLong(unittest.TestCase):
    def test_8_sets_of_24_things(self):
        halves = tuple(tuple(range(low, low + 12)) for low in range(4))
        every_second = tuple(tuple(range(low, 24, 2)) for low in range(2))
        star = tuple((0, thing) for thing in range(1, 9))
        chance = random.Random(115)
        for sets in (halves + every_second * 2, star, brute.drawn_sets(24, 8, chance), brute.drawn_sets(24, 8, chance)):
            begun = time.perf_counter()
            choice = greatest_choice(24, sets)
            self.assertLess(time.perf_counter() - begun, 2)
            self.assertIsNone(paper_for(24, tuple(sets[index] for index in choice)))
        self.assertEqual(greatest_choice(24, star), (0, 1))


class Refused(unittest.TestCase):
    def test_more_than_8_sets(self):
        for n in (1, 3, 24):
            for many in (9, 10, 40):
                self.assertRaises(OutOfRange, greatest_choice, n, ((),) * many)
                self.assertRaises(OutOfRange, greatest_choice, n, (tuple(range(n)),) * many)

    def test_8_sets_are_not_refused(self):
        self.assertEqual(greatest_choice(1, ((),) * 8), tuple(range(8)))
        self.assertEqual(greatest_choice(24, ((),) * 8), tuple(range(8)))

    def test_what_is_no_table_comes_first(self):
        for chosen in BAD_SETS:
            for many in (0, 7, 8, 39):
                self.assertRaises(InvalidTable, greatest_choice, 3, ((0, 1),) * many + (chosen,))
                self.assertRaises(InvalidTable, greatest_choice, 3, (chosen,) + ((0, 1),) * many)
        self.assertRaises(InvalidTable, greatest_choice, 3, ((),) * 41)

    def test_no_table_for_other_numbers_of_things(self):
        for n in NO_NUMBERS:
            for sets in ((), ((),), ((0,),), ((),) * 9, ((HUGE,),) * 9):
                self.assertRaises(InvalidTable, greatest_choice, n, sets)
