"""Point 6.1, and the heading unpartedrows/shares.py."""

import itertools
import math
import random
import time
import unittest

import brute
from samples import ALL_24, BAD_SETS, BAD_TREES, FORMS, GREATEST, HUGE, ROW_24
from unpartedrows.errors import InvalidTable, InvalidTree, OutOfRange
from unpartedrows.shares import count_between, count_first, count_neighbors, count_together
from unpartedrows.telling import count
from unpartedrows.trees import sets_of


class Held(unittest.TestCase):
    def hold(self, n, tree, orders):
        """All four counts are those of the orders, looked through one by one."""
        things = range(n)
        for a in things:
            self.assertEqual(count_first(tree, a), sum(order[0] == a for order in orders))
        for a, b in itertools.permutations(things, 2):
            self.assertEqual(count_neighbors(tree, a, b), sum(brute.are_neighbors(order, a, b) for order in orders))
        for a, b, c in itertools.permutations(things, 3):
            self.assertEqual(count_between(tree, a, b, c), sum(brute.is_between(order, a, b, c) for order in orders))
        for chosen in brute.sets_below(n):
            self.assertEqual(count_together(tree, chosen), sum(brute.is_together(order, chosen) for order in orders))


class SmallTrees(Held):
    def test_all_trees_over_up_to_four_things(self):
        chance = random.Random(61)
        for n in range(1, 5):
            for tree in brute.trees_over(tuple(range(n))):
                for _ in range(2):
                    self.hold(n, brute.shuffled(tree, chance), brute.told(tree))

    def test_trees_over_five_and_six_things(self):
        chance = random.Random(62)
        for n, many in ((5, 120), (6, 12)):
            for tree in chance.sample(brute.trees_over(tuple(range(n))), many):
                self.hold(n, brute.shuffled(tree, chance), brute.told(tree))

    def test_some_trees_over_seven_things(self):
        for tree in (("row", (("any", (0, 1)), ("any", (2, 3)), ("row", (4, 5, 6)))),
                     ("any", (("row", (6, ("any", (0, 4)), 3)), ("any", (1, ("any", (5, 2))))))):
            self.hold(7, tree, brute.told(tree))


class Examples(unittest.TestCase):
    def test_one_and_two_things(self):
        self.assertEqual(count_first(0, 0), 1)
        self.assertEqual(count_first(("any", (1, 0)), 0), 1)
        self.assertEqual(count_neighbors(("any", (1, 0)), 0, 1), 2)
        for chosen in ((), (0,)):
            self.assertEqual(count_together(0, chosen), 1)

    def test_two_things_that_never_are_neighbors(self):
        for tree, a, b in ((("row", (0, 1, 2)), 0, 2), (("any", (("row", (0, 1, 2)), 3)), 1, 3),
                           (("row", (("any", (0, 1)), 2, ("any", (3, 4)))), 0, 4), (brute.deep_rows(23), 0, 3)):
            self.assertEqual(count_neighbors(tree, a, b), 0)
            self.assertEqual(count_neighbors(tree, b, a), 0)

    def test_things_that_never_are_first_or_between(self):
        self.assertEqual(count_first(("row", (0, 1, 2)), 1), 0)
        self.assertEqual(count_first(("any", (("row", (0, 1, 2)), 3)), 1), 0)
        self.assertEqual(count_between(("row", (0, 1, 2)), 1, 0, 2), 0)
        self.assertEqual(count_between(("any", (("any", (0, 1)), 2)), 0, 2, 1), 0)

    def test_a_set_that_never_stands_together(self):
        self.assertEqual(count_together(("row", (0, 1, 2)), (0, 2)), 0)
        self.assertEqual(count_together(("any", (("any", (0, 1)), ("any", (2, 3)), ("any", (4, 5)))), (0, 2, 4)), 0)


class Sums(unittest.TestCase):
    def test_one_of_three_things_stands_between_the_others(self):
        for tree in GREATEST:
            for a, b, c in itertools.combinations((0, 1, 2, 4, 7, 8, 12, 21, 22), 3):
                between = count_between(tree, a, b, c) + count_between(tree, b, c, a) + count_between(tree, c, a, b)
                self.assertEqual(between, count(tree))
                self.assertEqual(count_between(tree, a, b, c), count_between(tree, c, b, a))

    def test_one_thing_is_first(self):
        for n, tree in zip((24, 24, 24, 24, 23), GREATEST):
            self.assertEqual(sum(count_first(tree, a) for a in range(n)), count(tree))

    def test_all_but_one_thing_have_a_next_one(self):
        for n, tree in zip((24, 24, 24, 24, 23), GREATEST):
            pairs = sum(count_neighbors(tree, a, b) for a, b in itertools.combinations(range(n), 2))
            self.assertEqual(pairs, (n - 1) * count(tree))

    def test_two_things_stand_together_exactly_if_they_are_neighbors(self):
        for n, tree in zip((24, 24, 24, 24, 23), GREATEST):
            for a, b in itertools.combinations(range(0, n, 3), 2):
                self.assertEqual(count_together(tree, (a, b)), count_neighbors(tree, a, b))

    def test_sums_over_small_trees(self):
        chance = random.Random(63)
        for tree in chance.sample(brute.trees_over(tuple(range(6))), 150):
            many = count(tree)
            self.assertEqual(sum(count_first(tree, a) for a in range(6)), many)
            for a, b, c in itertools.combinations(range(6), 3):
                self.assertEqual(count_between(tree, a, b, c) + count_between(tree, a, c, b)
                                 + count_between(tree, b, a, c), many)


class GreatestTrees(unittest.TestCase):
    def test_an_any_of_24_parts(self):
        for a in (0, 11, 23):
            self.assertEqual(count_first(ALL_24, a), math.factorial(23))
        for a, b in ((0, 1), (0, 23), (17, 5)):
            self.assertEqual(count_neighbors(ALL_24, a, b), 2 * math.factorial(23))
        self.assertEqual(count_between(ALL_24, 3, 0, 9), math.factorial(24) // 3)
        for many in range(1, 25):
            self.assertEqual(count_together(ALL_24, tuple(range(many))),
                             math.factorial(many) * math.factorial(25 - many))

    def test_a_row_of_24_parts(self):
        self.assertEqual([count_first(ROW_24, a) for a in range(24)], [1] + [0] * 22 + [1])
        for a, b in itertools.permutations(range(24), 2):
            self.assertEqual(count_neighbors(ROW_24, a, b), 2 if abs(a - b) == 1 else 0)
        self.assertEqual(count_between(ROW_24, 0, 12, 23), 2)
        self.assertEqual(count_between(ROW_24, 12, 0, 23), 0)
        self.assertEqual(count_together(ROW_24, tuple(range(5, 20))), 2)
        self.assertEqual(count_together(ROW_24, (5, 7)), 0)

    def test_trees_one_within_the_other(self):
        tree = brute.deep_any(24)
        self.assertEqual(count_first(tree, 23), 2 ** 22)
        self.assertEqual(count_first(tree, 22), 2 ** 21)
        self.assertEqual([count_first(tree, 0), count_first(tree, 1)], [1, 1])
        self.assertEqual(count_neighbors(tree, 0, 1), 2 ** 23)
        self.assertEqual(count_neighbors(tree, 0, 23), 2)
        self.assertEqual(count_between(tree, 0, 1, 23), 2 ** 22)
        self.assertEqual(count_between(tree, 0, 23, 1), 0)
        self.assertEqual(count_together(tree, tuple(range(1, 24))), 2)
        tree = brute.deep_rows(23)
        self.assertEqual(count(tree), 2 ** 11)
        self.assertEqual([count_first(tree, a) for a in range(23)], [0] * 21 + [2 ** 10] * 2)
        self.assertEqual(count_neighbors(tree, 0, 1), 2 ** 11)
        self.assertEqual(count_neighbors(tree, 1, 3), 2 ** 10)
        self.assertEqual(count_between(tree, 21, 0, 22), 2 ** 11)
        self.assertEqual(count_between(tree, 21, 3, 0), 2 ** 10)

    def test_sets_that_change_nothing(self):
        for n, tree in zip((24, 24, 24, 24, 23), GREATEST):
            for chosen in ((), (0,), (n - 1,), tuple(range(n))) + sets_of(tree):
                self.assertEqual(count_together(tree, chosen), count(tree))

    def test_how_long_each_takes(self):
        for tree in GREATEST:
            begun = time.perf_counter()
            count_together(tree, (0, 1))
            count_neighbors(tree, 0, 1)
            count_first(tree, 0)
            count_between(tree, 0, 1, 2)
            self.assertLess(time.perf_counter() - begun, 2)


class WhichErrorComesFirst(unittest.TestCase):
    def test_numbers_that_are_no_things(self):
        for tree in FORMS:
            for number in (-1, 3, -3, HUGE, -HUGE):
                self.assertRaises(OutOfRange, count_first, tree, number)
                for two in ((number, 0), (1, number), (number, number)):
                    self.assertRaises(OutOfRange, count_neighbors, tree, *two)
                for three in ((number, 0, 1), (0, number, 1), (2, 0, number), (number, number, number)):
                    self.assertRaises(OutOfRange, count_between, tree, *three)

    def test_numbers_that_are_not_different(self):
        for tree in FORMS:
            for a, b in ((0, 1), (1, 0), (2, 0)):
                self.assertRaises(OutOfRange, count_neighbors, tree, a, a)
                for three in ((a, a, b), (a, b, a), (b, a, a), (a, a, a)):
                    self.assertRaises(OutOfRange, count_between, tree, *three)

    def test_trees_of_too_few_things(self):
        self.assertRaises(OutOfRange, count_first, 0, 1)
        self.assertRaises(OutOfRange, count_neighbors, 0, 0, 0)
        self.assertRaises(OutOfRange, count_neighbors, 0, 0, 1)
        self.assertRaises(OutOfRange, count_between, ("any", (0, 1)), 0, 1, 2)

    def test_sets_that_are_none(self):
        for tree in FORMS:
            for chosen in BAD_SETS:
                self.assertRaises(InvalidTable, count_together, tree, chosen)
        self.assertRaises(InvalidTable, count_together, 0, (1,))

    def test_a_bad_tree_comes_first(self):
        for tree in BAD_TREES:
            for a, b, c in ((0, 1, 2), (0, 0, 0), (-1, 5, HUGE)):
                self.assertRaises(InvalidTree, count_first, tree, a)
                self.assertRaises(InvalidTree, count_neighbors, tree, a, b)
                self.assertRaises(InvalidTree, count_between, tree, a, b, c)
            for chosen in ((), (0,)) + BAD_SETS:
                self.assertRaises(InvalidTree, count_together, tree, chosen)
