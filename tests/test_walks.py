"""Point 6.7, and the heading unpartedrows/walks.py."""

import itertools
import random
import time
import unittest

import brute
from samples import BAD_ORDERS, BAD_TREES, FORMS, GREATEST, HUGE, NESTED_8
from unpartedrows.errors import InvalidOrder, InvalidTree, OutOfRange
from unpartedrows.telling import count, order_at, tells
from unpartedrows.walks import do_turn, walk


class Turns(unittest.TestCase):
    def test_all_pairs_of_numbers_for_few_things(self):
        for n in range(1, 6):
            order = tuple(random.Random(n).sample(range(n), n))
            for turn in itertools.product(range(-2, n + 3), repeat=2):
                if 0 <= turn[0] < turn[1] < n:
                    self.assertEqual(do_turn(order, turn), brute.turned(order, turn))
                else:
                    self.assertRaises(OutOfRange, do_turn, order, turn)

    def test_all_orders_of_few_things(self):
        for n in range(2, 6):
            for order in brute.orders_of(n):
                for turn in itertools.combinations(range(n), 2):
                    found = do_turn(order, turn)
                    self.assertIs(type(found), tuple)
                    self.assertEqual(found, brute.turned(order, turn))
                    self.assertEqual(do_turn(found, turn), order)

    def test_examples(self):
        self.assertEqual(do_turn((3, 1, 0, 2), (0, 1)), (1, 3, 0, 2))
        self.assertEqual(do_turn((3, 1, 0, 2), (1, 3)), (3, 2, 0, 1))
        self.assertEqual(do_turn((3, 1, 0, 2), (0, 3)), (2, 0, 1, 3))

    def test_the_whole_order(self):
        for n in range(2, 25):
            order = tuple(random.Random(n).sample(range(n), n))
            self.assertEqual(do_turn(order, (0, n - 1)), order[::-1])

    def test_orders_of_24_things(self):
        order = tuple(random.Random(141).sample(range(24), 24))
        for turn in itertools.combinations(range(24), 2):
            self.assertEqual(do_turn(order, turn), brute.turned(order, turn))

    def test_what_is_no_turn(self):
        for turn in ((), (0,), (1,), (0, 1, 2), (0, 1, 1), (0, 0, 1), (0, 2, 1, 1), (HUGE,), (1, 0), (2, 0), (0, 0),
                     (1, 1), (2, 2), (3, 3), (0, 3), (1, 3), (2, 3), (3, 4), (-1, 0), (-1, 1), (-2, -1), (-3, -1),
                     (0, -1), (0, HUGE), (-HUGE, 1), (HUGE, HUGE + 1), (3, 2)):
            self.assertRaises(OutOfRange, do_turn, (1, 2, 0), turn)
        for turn in ((0, 0), (0, 1), (-1, 0), (), (0,), (0, 0, 0)):
            self.assertRaises(OutOfRange, do_turn, (0,), turn)

    def test_a_bad_order_comes_first(self):
        for order in BAD_ORDERS:
            if order not in ((0,), (0, 1), (0, 1, 2, 3)):
                for turn in ((0, 1), (1, 0), (), (0, 1, 2), (-1, 0), (0, 24), (0, HUGE)):
                    self.assertRaises(InvalidOrder, do_turn, order, turn)


class Held(unittest.TestCase):
    def hold(self, tree, told, first, second):
        """The turns lead from the first to the second order, and each order on the way is one of those told."""
        turns = walk(tree, first, second)
        self.assertIs(type(turns), tuple)
        order = first
        for turn in turns:
            self.assertEqual([type(turn), *map(type, turn)], [tuple, int, int])
            order = do_turn(order, turn)
            self.assertTrue(told(order))
        self.assertEqual(order, second)


class SmallTrees(Held):
    def test_all_trees_over_up_to_four_things(self):
        chance = random.Random(142)
        for n in range(1, 5):
            for tree in brute.trees_over(tuple(range(n))):
                orders = set(brute.told(tree))
                shuffled = brute.shuffled(tree, chance)
                for first, second in itertools.product(orders, repeat=2):
                    self.hold(shuffled, orders.__contains__, first, second)

    def test_trees_over_five_and_six_things(self):
        chance = random.Random(143)
        for n, many in ((5, 200), (6, 100)):
            for tree in chance.sample(brute.trees_over(tuple(range(n))), many):
                orders = brute.told(tree)
                told = set(orders).__contains__
                for _ in range(20):
                    self.hold(brute.shuffled(tree, chance), told, chance.choice(orders), chance.choice(orders))

    def test_all_orders_of_trees_with_rows_within_one_another(self):
        for tree in (("row", (("row", (4, 0, 2)), 1, 3)), ("row", (1, ("any", (4, 0)), ("any", (3, 2)))),
                     ("any", (("row", (4, 0, 2)), ("any", (1, 3)))), ("row", (0, ("row", (4, 3, ("any", (1, 2)))), 5))):
            orders = set(brute.told(tree))
            for first, second in itertools.product(orders, repeat=2):
                self.hold(tree, orders.__contains__, first, second)

    def test_from_an_order_to_itself(self):
        for tree in FORMS + (("any", (1, 0)),):
            for order in brute.told(tree):
                self.hold(tree, brute.told(tree).__contains__, order, order)
        self.assertEqual(walk(0, (0,), (0,)), ())


class GreatTrees(Held):
    def test_drawn_orders(self):
        chance = random.Random(144)
        for tree in GREATEST + (NESTED_8,):
            many = count(tree)
            for _ in range(6):
                first, second = [order_at(tree, chance.randrange(many)) for _ in range(2)]
                for one, other in ((first, second), (second, first), (first, first), (first, first[::-1])):
                    self.hold(tree, lambda order: tells(tree, order), one, other)

    def test_how_long_each_takes(self):
        chance = random.Random(145)
        for tree in GREATEST:
            first, second = [order_at(tree, chance.randrange(count(tree))) for _ in range(2)]
            begun = time.perf_counter()
            walk(tree, first, second)
            self.assertLess(time.perf_counter() - begun, 2)


class Refused(unittest.TestCase):
    def test_orders_that_are_not_told(self):
        for n in range(3, 5):
            for tree in brute.trees_over(tuple(range(n))):
                orders = brute.orders_of(n)
                told = set(brute.told(tree))
                for first, second in itertools.product(orders, orders[::5]):
                    for one, other in ((first, second), (second, first)):
                        if not {one, other} <= told:
                            self.assertRaises(OutOfRange, walk, tree, one, other)

    def test_an_order_that_is_not_told_to_itself(self):
        self.assertRaises(OutOfRange, walk, ("row", (0, 1, 2)), (1, 0, 2), (1, 0, 2))

    def test_a_bad_tree_comes_first(self):
        for tree in BAD_TREES:
            for first, second in itertools.product(((0, 1, 2), (0,), (), (0, 0, 1), (1, 0, 2)), repeat=2):
                self.assertRaises(InvalidTree, walk, tree, first, second)

    def test_then_a_bad_order(self):
        for tree in FORMS:
            good = tuple(brute.told(tree)[0])
            for order in BAD_ORDERS:
                # (2, 0, 1) and (0, 2, 1) are told by no more than two of the trees.
                for other in (good, (2, 0, 1), (0, 2, 1), (0, 1), order):
                    self.assertRaises(InvalidOrder, walk, tree, order, other)
                    self.assertRaises(InvalidOrder, walk, tree, other, order)
