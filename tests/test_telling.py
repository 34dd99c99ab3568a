"""Points 2.2, 2.4, 2.5 and 6.3, and the heading unpartedrows/telling.py."""

import math
import random
import unittest

import brute
from unpartedrows.errors import InvalidOrder, InvalidTree, OutOfRange
from unpartedrows.telling import count, least_order, number_of, order_at, tells

HUGE = 10 ** 6000
ALL_24 = ("any", tuple(range(24))[::-1])
ROW_24 = ("row", tuple(range(24))[::-1])
MIXED_24 = ("row", (("any", tuple(range(8, 24))), ("row", (7, 5, 6)), ("any", (("row", (4, 2, 3)), 1, 0))))
BAD_TREES = (1, -1, HUGE, ("any", (0, 2)), ("any", (0, 0)), ("any", (0,)), ("row", (0, 1)), ("all", (0, 1)), (),
             ("any", (0, 1), 2), ("any", tuple(range(25))), ("any", (0, ("any", (1, 3)))))
BAD_ORDERS = ((), (0,), (0, 1), (0, 1, 2, 3), (0, 1, 1), (1, 2, 3), (-1, 0, 1), (0, 1, HUGE), tuple(range(25)))


class SmallTrees(unittest.TestCase):
    """Every tree over up to five things, in a form of its own, against all orders."""

    def setUp(self):
        chance = random.Random(5)
        self.trees = [(n, brute.shuffled(tree, chance), brute.told(tree))
                      for n in range(1, 6) for tree in brute.trees_over(tuple(range(n)))]

    def test_which_orders_are_told(self):
        for n, tree, orders in self.trees:
            for order in brute.orders_of(n):
                self.assertIs(tells(tree, order), order in orders)

    def test_how_many_are_told(self):
        for _, tree, orders in self.trees:
            self.assertEqual(count(tree), len(orders))

    def test_numbers_of_orders(self):
        for n, tree, orders in self.trees:
            for order in brute.orders_of(n):
                number = orders.index(order) if order in orders else None
                self.assertEqual(number_of(tree, order), number)

    def test_orders_with_numbers(self):
        for _, tree, orders in self.trees:
            self.assertEqual([order_at(tree, number) for number in range(len(orders))], orders)
            for number in (-1, len(orders), len(orders) + 1, -len(orders), HUGE, -HUGE):
                with self.assertRaises(OutOfRange):
                    order_at(tree, number)

    def test_the_least_order(self):
        for _, tree, orders in self.trees:
            self.assertEqual(least_order(tree), min(orders))


class SixThings(unittest.TestCase):
    def test_some_trees(self):
        for tree in (("any", (5, 4, 3, 2, 1, 0)), ("row", (("any", (3, 5)), ("any", (4, 0)), ("any", (2, 1)))),
                     ("any", (("row", (5, 4, 2)), ("row", (3, 0, 1)))), ("row", (5, 0, 4, 1, 3, 2)),
                     ("any", (3, ("row", (("any", (5, 4)), 0, ("any", (2, 1))))))):
            orders = set(brute.told(tree))
            self.assertEqual(count(tree), len(orders))
            self.assertEqual({order for order in brute.orders_of(6) if tells(tree, order)}, orders)
            numbered = [order_at(tree, number) for number in range(count(tree))]
            self.assertEqual(set(numbered), orders)
            self.assertEqual([number_of(tree, order) for order in numbered], list(range(len(orders))))
            self.assertEqual(least_order(tree), min(orders))


class Examples(unittest.TestCase):
    def test_numbers_of_an_any(self):
        self.assertEqual([order_at(("any", (2, 0, 1)), number) for number in range(6)], brute.orders_of(3))
        self.assertEqual(number_of(("any", (1, 2, 0)), (1, 2, 0)), 3)

    def test_numbers_of_a_row(self):
        tree = ("row", (2, ("any", (3, 1)), 0))
        self.assertEqual([order_at(tree, number) for number in range(4)],
                         [(0, 1, 3, 2), (0, 3, 1, 2), (2, 1, 3, 0), (2, 3, 1, 0)])

    def test_the_first_part_weighs_more_than_the_last(self):
        tree = ("any", (("any", (3, 2)), ("any", (1, 0))))
        self.assertEqual([order_at(tree, number) for number in range(8)],
                         [(0, 1, 2, 3), (0, 1, 3, 2), (1, 0, 2, 3), (1, 0, 3, 2),
                          (2, 3, 0, 1), (3, 2, 0, 1), (2, 3, 1, 0), (3, 2, 1, 0)])

    def test_an_order_that_is_not_told_has_no_number(self):
        self.assertIsNone(number_of(("row", (0, 1, 2)), (1, 0, 2)))
        self.assertIsNone(number_of(("any", (("any", (0, 1)), 2)), (0, 2, 1)))

    def test_the_least_order_is_not_the_first_one(self):
        tree = ("row", (("row", (2, 0, 3)), 4, 1))
        self.assertEqual(order_at(tree, 0), (2, 0, 3, 4, 1))
        self.assertEqual(least_order(tree), (1, 4, 2, 0, 3))


class GreatestTrees(unittest.TestCase):
    def test_an_any_of_24_parts(self):
        self.assertEqual(count(ALL_24), math.factorial(24))
        self.assertEqual(order_at(ALL_24, 0), tuple(range(24)))
        self.assertEqual(order_at(ALL_24, math.factorial(24) - 1), tuple(range(24))[::-1])
        self.assertEqual(number_of(ALL_24, tuple(range(24))[::-1]), math.factorial(24) - 1)
        self.assertEqual(least_order(ALL_24), tuple(range(24)))
        self.assertIs(tells(ALL_24, tuple(range(24))), True)
        for number in (-1, math.factorial(24)):
            self.assertRaises(OutOfRange, order_at, ALL_24, number)

    def test_a_row_of_24_parts(self):
        self.assertEqual(count(ROW_24), 2)
        self.assertEqual(order_at(ROW_24, 0), tuple(range(24)))
        self.assertEqual(order_at(ROW_24, 1), tuple(range(24))[::-1])
        self.assertEqual(number_of(ROW_24, tuple(range(24))[::-1]), 1)
        self.assertEqual(least_order(ROW_24), tuple(range(24)))
        self.assertIs(tells(ROW_24, (1, 0) + tuple(range(2, 24))), False)
        self.assertRaises(OutOfRange, order_at, ROW_24, 2)

    def test_a_mixed_tree(self):
        many = 2 * math.factorial(16) * 2 * (6 * 2)
        self.assertEqual(count(MIXED_24), many)
        chance = random.Random(6)
        for number in [0, 1, many // 2 - 1, many // 2, many - 1] + [chance.randrange(many) for _ in range(40)]:
            order = order_at(MIXED_24, number)
            self.assertIs(tells(MIXED_24, order), True)
            self.assertEqual(number_of(MIXED_24, order), number)
            self.assertLessEqual(least_order(MIXED_24), order)
        self.assertEqual(least_order(MIXED_24), (0, 1, 3, 2, 4, 6, 5, 7) + tuple(range(8, 24)))

    def test_trees_one_within_the_other(self):
        tree = 0
        for thing in range(1, 24):
            tree = ("any", (thing, tree))
        self.assertEqual(count(tree), 2 ** 23)
        for number in (0, 1, 2 ** 22, 2 ** 23 - 1, 1234567):
            self.assertEqual(number_of(tree, order_at(tree, number)), number)
        self.assertRaises(OutOfRange, order_at, tree, 2 ** 23)


class WhichErrorComesFirst(unittest.TestCase):
    def test_a_bad_tree_comes_first(self):
        for tree in BAD_TREES:
            for function in (count, least_order):
                with self.assertRaises(InvalidTree):
                    function(tree)
            for order in BAD_ORDERS + ((0, 2, 1),):
                for function in (tells, number_of):
                    with self.assertRaises(InvalidTree):
                        function(tree, order)
            for number in (0, -1, 10 ** 9, HUGE):
                with self.assertRaises(InvalidTree):
                    order_at(tree, number)

    def test_an_order_must_be_one_of_the_things_of_the_tree(self):
        for tree in (("any", (2, 1, 0)), ("row", (1, 2, 0)), ("any", (0, ("any", (1, 2))))):
            for order in BAD_ORDERS:
                for function in (tells, number_of):
                    with self.assertRaises(InvalidOrder):
                        function(tree, order)

    def test_one_thing(self):
        self.assertIs(tells(0, (0,)), True)
        self.assertEqual(count(0), 1)
        self.assertEqual(order_at(0, 0), (0,))
        self.assertEqual(number_of(0, (0,)), 0)
        self.assertEqual(least_order(0), (0,))
        for number in (-1, 1):
            self.assertRaises(OutOfRange, order_at, 0, number)
        for order in ((), (1,), (0, 1), (-1,)):
            self.assertRaises(InvalidOrder, tells, 0, order)
            self.assertRaises(InvalidOrder, number_of, 0, order)
