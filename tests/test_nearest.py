"""Point 6.2, and the heading unpartedrows/nearest.py."""

import itertools
import random
import time
import unittest

import brute
from samples import BAD_ORDERS, BAD_TREES, BLOCKS_8, FORMS, NARROW, NESTED_8, NINE, ROWS_8, ROW_24, TOO_WIDE
from unpartedrows.errors import InvalidOrder, InvalidTree, OutOfRange
from unpartedrows.nearest import distance, nearest
from unpartedrows.telling import count, order_at, tells


class Distance(unittest.TestCase):
    def test_all_orders_of_few_things(self):
        for n in range(1, 5):
            for order, other in itertools.product(brute.orders_of(n), repeat=2):
                self.assertEqual(distance(order, other), brute.distance(order, other))

    def test_some_orders_of_more_things(self):
        chance = random.Random(71)
        for n in list(range(5, 25)) * 5:
            order, other = tuple(chance.sample(range(n), n)), tuple(chance.sample(range(n), n))
            self.assertEqual(distance(order, other), brute.distance(order, other))

    def test_examples(self):
        self.assertEqual(distance((0,), (0,)), 0)
        self.assertEqual(distance((0, 1), (1, 0)), 1)
        self.assertEqual(distance((2, 0, 1), (0, 1, 2)), 2)
        everything = tuple(range(24))
        self.assertEqual(distance(everything, everything), 0)
        self.assertEqual(distance(everything, everything[::-1]), 276)
        self.assertEqual(distance(everything, everything[1:] + (0,)), 23)

    def test_orders_that_are_none_or_not_equally_long(self):
        for order in BAD_ORDERS:
            if order not in ((0,), (0, 1), (0, 1, 2, 3)):
                for other in ((0, 1, 2), (2, 1, 0), order):
                    self.assertRaises(InvalidOrder, distance, order, other)
            self.assertRaises(InvalidOrder, distance, (1, 2, 0), order)
        for order, other in itertools.permutations([(0,), (1, 0), (1, 0, 2), tuple(range(24))], 2):
            self.assertRaises(InvalidOrder, distance, order, other)


class Held(unittest.TestCase):
    def hold(self, tree, orders, wanted):
        """The told order is one of these, at the told distance, and none of them has a lesser one."""
        found = nearest(tree, wanted)
        self.assertEqual([type(found), *map(type, found)], [tuple, int, tuple])
        least, order = found
        self.assertIn(order, orders)
        self.assertEqual(brute.distance(order, wanted), least)
        self.assertEqual(distance(order, wanted), least)
        self.assertEqual(least, min(brute.distance(other, wanted) for other in orders))


class SmallTrees(Held):
    def test_all_trees_over_up_to_four_things(self):
        chance = random.Random(72)
        for n in range(1, 5):
            for tree in brute.trees_over(tuple(range(n))):
                orders = set(brute.told(tree))
                for wanted in brute.orders_of(n):
                    self.hold(brute.shuffled(tree, chance), orders, wanted)

    def test_trees_over_five_and_six_things(self):
        chance = random.Random(73)
        for n, many in ((5, 250), (6, 60)):
            for tree in chance.sample(brute.trees_over(tuple(range(n))), many):
                orders = set(brute.told(tree))
                for _ in range(4):
                    self.hold(brute.shuffled(tree, chance), orders, tuple(chance.sample(range(n), n)))

    def test_some_trees_over_seven_and_eight_things(self):
        chance = random.Random(74)
        for n, tree in ((7, ("row", (("any", (0, 1)), ("any", (2, 3)), ("row", (4, 5, 6))))),
                        (8, ("any", (("row", (6, ("any", (0, 4)), 3)), ("any", (1, ("any", (5, 2)))), 7))),
                        (8, ("any", (("any", (0, 1)), ("any", (2, 3)), ("any", (4, 5)), ("any", (6, 7)))))):
            orders = set(brute.told(tree))
            for _ in range(12):
                self.hold(brute.shuffled(tree, chance), orders, tuple(chance.sample(range(n), n)))

    def test_an_order_that_is_told_is_the_nearest_one(self):
        chance = random.Random(75)
        for n in range(1, 6):
            for tree in brute.trees_over(tuple(range(n))):
                order = chance.choice(brute.told(tree))
                self.assertEqual(nearest(brute.shuffled(tree, chance), order), (0, order))


class GreatestTrees(unittest.TestCase):
    def test_an_any_of_8_things(self):
        chance = random.Random(76)
        for _ in range(10):
            wanted = tuple(chance.sample(range(8), 8))
            self.assertEqual(nearest(("any", tuple(range(8))), wanted), (0, wanted))

    def test_an_any_of_8_parts_against_all_sequences_of_them(self):
        chance = random.Random(77)
        for _, parts in (BLOCKS_8, ROWS_8):
            wanted = tuple(chance.sample(range(24), 24))
            least, order = nearest(("any", parts), wanted)
            self.assertIs(tells(("any", parts), order), True)
            self.assertEqual(brute.distance(order, wanted), least)
            things = [brute.leaves(part) for part in parts]
            cost = [[sum(wanted.index(a) > wanted.index(b) for a in ahead for b in behind) for behind in things]
                    for ahead in things]
            among = min(sum(cost[a][b] for a, b in itertools.combinations(sequence, 2))
                        for sequence in itertools.permutations(range(8)))
            within = 0
            for part in parts:
                within += min(sum(wanted.index(a) > wanted.index(b) for a, b in itertools.combinations(inner, 2))
                              for inner in brute.told(part))
            self.assertEqual(least, among + within)

    def test_drawn_orders_that_are_told_or_nearly_told(self):
        chance = random.Random(78)
        for tree in NARROW:
            for _ in range(5):
                order = order_at(tree, chance.randrange(count(tree)))
                self.assertEqual(nearest(tree, order), (0, order))
                at = chance.randrange(len(order) - 1)
                wanted = order[:at] + (order[at + 1], order[at]) + order[at + 2:]
                least, found = nearest(tree, wanted)
                self.assertEqual(least, 0 if tells(tree, wanted) else 1)
                self.assertEqual(brute.distance(found, wanted), least)
                self.assertIs(tells(tree, found), True)

    def test_a_row_of_24_parts(self):
        everything = tuple(range(24))
        self.assertEqual(nearest(ROW_24, everything[1:] + (0,)), (23, everything))
        self.assertEqual(nearest(ROW_24, (23,) + everything[-2:0:-1] + (0,)), (0, everything[::-1]))

    def test_how_long_each_takes(self):
        chance = random.Random(79)
        for tree in NARROW:
            n = len(brute.leaves(tree))
            wanted = tuple(chance.sample(range(n), n))
            begun = time.perf_counter()
            nearest(tree, wanted)
            self.assertLess(time.perf_counter() - begun, 2)


class Refused(unittest.TestCase):
    def test_an_any_of_more_than_8_parts_anywhere(self):
        for tree in TOO_WIDE:
            n = len(brute.leaves(tree))
            for wanted in (tuple(range(n)), order_at(tree, 0)):
                with self.assertRaises(OutOfRange):
                    nearest(tree, wanted)

    def test_nothing_else(self):
        for tree in NARROW + (0, ("row", tuple(range(9))), ("row", (NESTED_8, 22, 23)), ("any", tuple(range(8)))):
            n = len(brute.leaves(tree))
            self.assertIs(tells(tree, nearest(tree, tuple(range(n)))[1]), True)


class WhichErrorComesFirst(unittest.TestCase):
    def test_a_bad_tree_comes_first(self):
        for tree in BAD_TREES:
            for wanted in BAD_ORDERS + ((0, 2, 1), tuple(range(9)), tuple(range(10))):
                with self.assertRaises(InvalidTree):
                    nearest(tree, wanted)

    def test_then_a_bad_order(self):
        for tree in FORMS:
            for wanted in BAD_ORDERS:
                with self.assertRaises(InvalidOrder):
                    nearest(tree, wanted)
        for wanted in BAD_ORDERS + (tuple(range(1, 10)), tuple(range(8)), (0,) * 9):
            with self.assertRaises(InvalidOrder):
                nearest(NINE, wanted)
