"""Point 6.1, and the heading unpartedrows/questions.py."""

import itertools
import random
import time
import unittest

import brute
from samples import ALL_24, BAD_SETS, BAD_TREES, FORMS, GREATEST, HUGE, ROW_24
from unpartedrows.errors import InvalidTable, InvalidTree, OutOfRange
from unpartedrows.questions import (can_be_between, can_be_first, can_neighbor, is_always_between,
                                    is_always_together)
from unpartedrows.trees import sets_of


class Held(unittest.TestCase):
    def hold(self, n, tree, orders):
        """All five questions are answered by what is so in the orders, looked through one by one."""
        things = range(n)
        for a in things:
            self.assertIs(can_be_first(tree, a), any(order[0] == a for order in orders))
        for a, b in itertools.permutations(things, 2):
            self.assertIs(can_neighbor(tree, a, b), any(brute.are_neighbors(order, a, b) for order in orders))
        for a, b, c in itertools.permutations(things, 3):
            between = [brute.is_between(order, a, b, c) for order in orders]
            self.assertIs(can_be_between(tree, a, b, c), any(between))
            self.assertIs(is_always_between(tree, a, b, c), all(between))
        for chosen in brute.sets_below(n):
            self.assertIs(is_always_together(tree, chosen), all(brute.is_together(order, chosen) for order in orders))


class SmallTrees(Held):
    def test_all_trees_over_up_to_four_things(self):
        chance = random.Random(51)
        for n in range(1, 5):
            for tree in brute.trees_over(tuple(range(n))):
                for _ in range(2):
                    self.hold(n, brute.shuffled(tree, chance), brute.told(tree))

    def test_trees_over_five_and_six_things(self):
        chance = random.Random(52)
        for n, many in ((5, 120), (6, 12)):
            for tree in chance.sample(brute.trees_over(tuple(range(n))), many):
                self.hold(n, brute.shuffled(tree, chance), brute.told(tree))

    def test_some_trees_over_seven_things(self):
        for tree in (("row", (("any", (0, 1)), ("any", (2, 3)), ("row", (4, 5, 6)))),
                     ("any", (("row", (6, ("any", (0, 4)), 3)), ("any", (1, ("any", (5, 2))))))):
            self.hold(7, tree, brute.told(tree))


class Examples(unittest.TestCase):
    def test_one_and_two_things(self):
        self.assertIs(can_be_first(0, 0), True)
        self.assertIs(can_be_first(("any", (1, 0)), 1), True)
        self.assertIs(can_neighbor(("any", (1, 0)), 0, 1), True)
        for chosen in ((), (0,)):
            self.assertIs(is_always_together(0, chosen), True)

    def test_neighbors_at_the_ends_of_parts(self):
        tree = ("row", (("row", (0, 1, 2)), ("any", (3, 4)), 5))
        for a, b, can in ((0, 1, True), (0, 2, False), (0, 3, True), (2, 4, True), (1, 3, False), (0, 5, False),
                          (3, 5, True), (3, 4, True)):
            self.assertIs(can_neighbor(tree, a, b), can)
            self.assertIs(can_neighbor(tree, b, a), can)

    def test_first_is_what_can_be_at_an_end(self):
        tree = ("row", (("row", (0, 1, 2)), ("any", (3, 4)), ("any", (5, 6))))
        self.assertEqual([thing for thing in range(7) if can_be_first(tree, thing)], [0, 2, 5, 6])

    def test_between(self):
        tree = ("row", (("any", (0, 1)), 2, ("any", (3, 4, 5))))
        for a, b, c, can, always in ((0, 2, 3, True, True), (4, 2, 1, True, True), (0, 1, 2, True, False),
                                     (0, 2, 1, False, False), (3, 4, 5, True, False), (2, 3, 5, True, False),
                                     (2, 0, 3, False, False), (3, 2, 5, False, False)):
            self.assertIs(can_be_between(tree, a, b, c), can)
            self.assertIs(is_always_between(tree, a, b, c), always)

    def test_the_sets_of_a_tree_are_always_together(self):
        for tree in GREATEST:
            for chosen in sets_of(tree):
                self.assertIs(is_always_together(tree, chosen), True)


class GreatestTrees(unittest.TestCase):
    def test_an_any_of_24_parts(self):
        for a in range(24):
            self.assertIs(can_be_first(ALL_24, a), True)
            self.assertIs(can_neighbor(ALL_24, a, (a + 9) % 24), True)
            three = (a, (a + 9) % 24, (a + 2) % 24)
            self.assertIs(can_be_between(ALL_24, *three), True)
            self.assertIs(is_always_between(ALL_24, *three), False)
        for chosen, always in (((), True), ((5,), True), ((0, 1), False), (tuple(range(23)), False),
                               (tuple(range(24)), True)):
            self.assertIs(is_always_together(ALL_24, chosen), always)

    def test_a_row_of_24_parts(self):
        self.assertEqual([thing for thing in range(24) if can_be_first(ROW_24, thing)], [0, 23])
        for a, b in itertools.permutations(range(24), 2):
            self.assertIs(can_neighbor(ROW_24, a, b), abs(a - b) == 1)
        for a, b, c in itertools.permutations((0, 1, 5, 12, 13, 22, 23), 3):
            between = a < b < c or c < b < a
            self.assertIs(can_be_between(ROW_24, a, b, c), between)
            self.assertIs(is_always_between(ROW_24, a, b, c), between)
        self.assertIs(is_always_together(ROW_24, (3, 4, 5, 6)), True)
        self.assertIs(is_always_together(ROW_24, (3, 4, 6)), False)

    def test_trees_one_within_the_other(self):
        tree = brute.deep_any(24)
        # The thing 23 stands at an end of the whole, 22 at an end of the others, and so on.
        self.assertEqual([thing for thing in range(24) if can_be_first(tree, thing)], list(range(24)))
        self.assertIs(can_neighbor(tree, 0, 23), True)
        self.assertIs(can_be_between(tree, 0, 23, 1), False)
        self.assertIs(can_be_between(tree, 0, 1, 23), True)
        self.assertIs(is_always_between(tree, 0, 1, 23), False)
        self.assertIs(is_always_together(tree, tuple(range(20))), True)
        self.assertIs(is_always_together(tree, tuple(range(1, 20))), False)
        tree = brute.deep_rows(23)
        self.assertEqual([thing for thing in range(23) if can_be_first(tree, thing)], [21, 22])
        self.assertIs(can_neighbor(tree, 0, 1), True)
        self.assertIs(can_neighbor(tree, 0, 3), False)
        self.assertIs(is_always_between(tree, 21, 0, 22), True)
        self.assertIs(is_always_between(tree, 21, 3, 0), False)
        self.assertIs(can_be_between(tree, 21, 3, 0), True)
        self.assertIs(is_always_together(tree, tuple(range(1, 23))), False)

    def test_how_long_each_takes(self):
        for tree in GREATEST:
            begun = time.perf_counter()
            can_be_first(tree, 0)
            can_neighbor(tree, 0, 1)
            can_be_between(tree, 0, 1, 2)
            is_always_between(tree, 0, 1, 2)
            is_always_together(tree, (0, 1))
            self.assertLess(time.perf_counter() - begun, 2)


class WhichErrorComesFirst(unittest.TestCase):
    def test_numbers_that_are_no_things(self):
        for tree in FORMS:
            for number in (-1, 3, -3, HUGE, -HUGE):
                self.assertRaises(OutOfRange, can_be_first, tree, number)
                for two in ((number, 0), (1, number), (number, number)):
                    self.assertRaises(OutOfRange, can_neighbor, tree, *two)
                for three in ((number, 0, 1), (0, number, 1), (2, 0, number), (number, number, number)):
                    self.assertRaises(OutOfRange, can_be_between, tree, *three)
                    self.assertRaises(OutOfRange, is_always_between, tree, *three)

    def test_numbers_that_are_not_different(self):
        for tree in FORMS:
            for a, b in ((0, 1), (1, 0), (2, 0)):
                self.assertRaises(OutOfRange, can_neighbor, tree, a, a)
                for three in ((a, a, b), (a, b, a), (b, a, a), (a, a, a)):
                    self.assertRaises(OutOfRange, can_be_between, tree, *three)
                    self.assertRaises(OutOfRange, is_always_between, tree, *three)

    def test_trees_of_too_few_things(self):
        self.assertRaises(OutOfRange, can_be_first, 0, 1)
        self.assertRaises(OutOfRange, can_neighbor, 0, 0, 0)
        self.assertRaises(OutOfRange, can_neighbor, 0, 0, 1)
        self.assertRaises(OutOfRange, can_be_between, ("any", (0, 1)), 0, 1, 2)
        self.assertRaises(OutOfRange, is_always_between, 0, 0, 0, 0)

    def test_sets_that_are_none(self):
        for tree in FORMS:
            for chosen in BAD_SETS:
                self.assertRaises(InvalidTable, is_always_together, tree, chosen)
        self.assertRaises(InvalidTable, is_always_together, 0, (1,))

    def test_a_bad_tree_comes_first(self):
        for tree in BAD_TREES:
            for a, b, c in ((0, 1, 2), (0, 0, 0), (-1, 5, HUGE)):
                self.assertRaises(InvalidTree, can_be_first, tree, a)
                self.assertRaises(InvalidTree, can_neighbor, tree, a, b)
                self.assertRaises(InvalidTree, can_be_between, tree, a, b, c)
                self.assertRaises(InvalidTree, is_always_between, tree, a, b, c)
            for chosen in ((), (0,)) + BAD_SETS:
                self.assertRaises(InvalidTree, is_always_together, tree, chosen)
