"""Point 6.8, and the heading unpartedrows/wishes.py."""

import itertools
import math
import random
import time
import unittest

import brute
from samples import ALL_24, BAD_TREES, BLOCKS_8, FORMS, HUGE, LINE_24, NARROW, NESTED_8, NINE, ROWS_8, ROW_24, TOO_WIDE
from unpartedrows.errors import InvalidTree, OutOfRange
from unpartedrows.telling import count, order_at, tells
from unpartedrows.wishes import count_with_wishes, is_wish_ring, with_wishes

BAD_WISHES = ((0, 0), (2, 2), (3, 0), (0, 3), (-1, 0), (0, -1), (-1, -2), (HUGE, 0), (0, -HUGE), (), (0,), (0, 1, 2),
              (0, 1, 1), (3, 3))


class Held(unittest.TestCase):
    def hold(self, tree, orders, wishes):
        """What is told keeps all wishes or is a ring among them, as it is so for these orders, and so many keep all."""
        kept = [order for order in orders if brute.keeps(order, wishes)]
        found = with_wishes(tree, wishes)
        self.assertEqual([type(found), *map(type, found)], [tuple, str, tuple])
        word, value = found
        self.assertEqual(word, "order" if kept else "ring")
        if kept:
            self.assertIn(value, kept)
        else:
            self.assertTrue(brute.is_wish_ring(tree, wishes, value))
            self.assertIs(is_wish_ring(tree, wishes, value), True)
        self.assertEqual(count_with_wishes(tree, wishes), len(kept))
        return word


def drawn_wishes(n, many, chance):
    """So many wishes for a tree over n things, of which some may be the same."""
    return tuple(tuple(chance.sample(range(n), 2)) for _ in range(many))


class SmallTrees(Held):
    def test_all_trees_over_three_things_and_up_to_three_wishes(self):
        every = list(itertools.permutations(range(3), 2))
        for tree in brute.trees_over((0, 1, 2)):
            for many in range(4):
                for wishes in itertools.product(every, repeat=many):
                    self.hold(tree, brute.told(tree), wishes)

    def test_all_trees_over_four_things_and_up_to_two_wishes(self):
        chance = random.Random(81)
        every = list(itertools.permutations(range(4), 2))
        for tree in brute.trees_over((0, 1, 2, 3)):
            orders = brute.told(tree)
            for many in range(3):
                for wishes in itertools.product(every, repeat=many):
                    self.hold(brute.shuffled(tree, chance), orders, wishes)

    def test_trees_over_five_to_seven_things(self):
        chance = random.Random(82)
        told = {"order": 0, "ring": 0}
        trees = [(n, tree) for n, many in ((4, 40), (5, 150), (6, 60))
                 for tree in chance.sample(brute.trees_over(tuple(range(n))), many)]
        trees.append((7, ("row", (("any", (0, 1)), ("any", (2, 3)), ("row", (4, 5, 6))))))
        trees.append((7, ("any", (("row", (6, ("any", (0, 4)), 3)), ("any", (1, ("any", (5, 2))))))))
        trees.append((7, ("any", tuple(range(7)))))
        for n, tree in trees:
            orders = brute.told(tree)
            for many in (1, 2, 3, 4, 6, 9):
                told[self.hold(brute.shuffled(tree, chance), orders, drawn_wishes(n, many, chance))] += 1
        self.assertGreater(min(told.values()), 200)

    def test_wishes_that_an_order_keeps(self):
        chance = random.Random(83)
        for tree in chance.sample(brute.trees_over(tuple(range(6))), 120):
            orders = brute.told(tree)
            order = chance.choice(orders)
            pairs = list(itertools.combinations(order, 2))
            for many in (2, 5, 15):
                self.assertEqual(self.hold(brute.shuffled(tree, chance), orders, tuple(chance.sample(pairs, many))),
                                 "order")

    def test_all_wishes_of_an_order_leave_this_one(self):
        for tree in brute.trees_over(tuple(range(4))):
            for order in brute.told(tree):
                wishes = tuple(itertools.combinations(order, 2))
                self.assertEqual(with_wishes(tree, wishes), ("order", order))
                self.assertEqual(count_with_wishes(tree, wishes), 1)


class Examples(Held):
    def test_no_wishes(self):
        for n in range(1, 6):
            for tree in brute.trees_over(tuple(range(n))):
                word, order = with_wishes(tree, ())
                self.assertEqual(word, "order")
                self.assertIs(tells(tree, order), True)
                self.assertEqual(count_with_wishes(tree, ()), count(tree))
        self.assertEqual(with_wishes(0, ()), ("order", (0,)))
        self.assertIs(is_wish_ring(0, (), ()), False)
        self.assertIs(is_wish_ring(0, (), (0,)), False)

    def test_a_wish_given_twice(self):
        tree = ("any", (0, 1, 2))
        self.assertEqual(self.hold(tree, brute.told(tree), ((1, 0), (1, 0))), "order")
        self.assertEqual(count_with_wishes(tree, ((1, 0), (1, 0))), 3)
        self.assertEqual(self.hold(tree, brute.told(tree), ((1, 0), (1, 0), (0, 1), (0, 1))), "ring")
        tree = ("row", (0, 1, 2))
        self.assertEqual(self.hold(tree, brute.told(tree), ((1, 0), (1, 0))), "order")
        self.assertEqual(count_with_wishes(tree, ((1, 0), (1, 0))), 1)

    def test_a_wish_and_its_contrary(self):
        for tree in (("any", (0, 1, 2)), ("row", (0, 1, 2)), ("any", (0, ("any", (1, 2))))):
            for a, b in itertools.permutations(range(3), 2):
                wishes = ((a, b), (b, a))
                self.assertEqual(self.hold(tree, brute.told(tree), wishes), "ring")
                self.assertEqual(sorted(with_wishes(tree, wishes)[1]), [0, 1])
                self.assertEqual(count_with_wishes(tree, wishes), 0)

    def test_rings_of_two_three_and_more_within_an_any(self):
        for many in range(2, 9):
            tree = ("any", tuple(range(many)))
            wishes = tuple((thing, (thing + 1) % many) for thing in range(many))
            word, ring = with_wishes(tree, wishes)
            self.assertEqual((word, sorted(ring)), ("ring", list(range(many))))
            self.assertTrue(brute.is_wish_ring(tree, wishes, ring))
            self.assertEqual(count_with_wishes(tree, wishes), 0)
            self.assertEqual(with_wishes(tree, wishes[:-1]), ("order", tuple(range(many))))
            self.assertEqual(count_with_wishes(tree, wishes[:-1]), 1)

    def test_rings_across_a_row(self):
        tree = ("row", (("any", (0, 1)), ("any", (2, 3)), 4))
        for wishes in (((0, 2), (3, 1)), ((0, 4), (3, 1)), ((4, 0), (2, 3), (1, 3)), ((2, 4), (2, 0))):
            self.assertEqual(self.hold(tree, brute.told(tree), wishes), "ring")
        for wishes in (((0, 2), (1, 3)), ((0, 4), (3, 2), (2, 4)), ((4, 0), (3, 1), (1, 0))):
            self.assertEqual(self.hold(tree, brute.told(tree), wishes), "order")

    def test_wishes_within_and_across_the_parts_of_one_tree(self):
        tree = ("any", (("row", (0, 1, 2)), ("any", (3, 4)), 5))
        for wishes, word in ((((1, 0), (4, 3), (5, 1)), "order"), (((1, 0), (1, 2)), "ring"),
                             (((0, 3), (4, 5), (5, 1)), "ring"), (((0, 3), (4, 5), (2, 1)), "order"),
                             (((3, 4), (0, 5), (4, 3)), "ring")):
            self.assertEqual(self.hold(tree, brute.told(tree), wishes), word)

    def test_wishes_that_would_be_a_ring_of_things_but_are_none_of_parts(self):
        # The things go around, but only wishes between different parts of one subtree can be a ring.
        tree = ("any", (("any", (0, 1)), 2))
        wishes = ((0, 2), (2, 1), (1, 0))
        self.assertEqual(self.hold(tree, brute.told(tree), wishes), "ring")
        self.assertIs(is_wish_ring(tree, wishes, (0, 1)), True)
        self.assertIs(is_wish_ring(tree, wishes, (0, 1, 2)), False)


class GreatestTrees(unittest.TestCase):
    def test_an_any_of_24_parts(self):
        self.assertEqual(with_wishes(ALL_24, LINE_24), ("order", tuple(range(24))))
        word, ring = with_wishes(ALL_24, LINE_24 + ((23, 0),))
        self.assertEqual((word, sorted(ring)), ("ring", list(range(24))))
        self.assertIs(is_wish_ring(ALL_24, LINE_24 + ((23, 0),), ring), True)
        order = tuple(random.Random(84).sample(range(24), 24))
        self.assertEqual(with_wishes(ALL_24, tuple(itertools.combinations(order, 2))), ("order", order))
        every = tuple(itertools.permutations(range(24), 2))
        word, ring = with_wishes(ALL_24, every)
        self.assertEqual(word, "ring")
        self.assertTrue(brute.is_wish_ring(ALL_24, every, ring))

    def test_a_row_of_24_parts(self):
        self.assertEqual(with_wishes(ROW_24, LINE_24), ("order", tuple(range(24))))
        self.assertEqual(with_wishes(ROW_24, ((23, 0), (7, 5))), ("order", tuple(range(24))[::-1]))
        wishes = LINE_24 + ((23, 0),)
        word, ring = with_wishes(ROW_24, wishes)
        self.assertEqual((word, len(ring)), ("ring", 2))
        self.assertTrue(brute.is_wish_ring(ROW_24, wishes, ring))
        self.assertEqual([count_with_wishes(ROW_24, each) for each in ((), LINE_24, wishes)], [2, 1, 0])

    def test_trees_one_within_the_other(self):
        for tree in (brute.deep_any(24), brute.deep_rows(23)):
            last = len(brute.leaves(tree)) - 1
            order = order_at(tree, count(tree) // 3)
            wishes = tuple(itertools.combinations(order, 2))
            self.assertEqual(with_wishes(tree, wishes), ("order", order))
            self.assertEqual(count_with_wishes(tree, wishes), 1)
            # Of these wishes only those of the innermost parts disagree.
            for contrary in ((0, 1), (1, 0)):
                wishes = ((last, 0), contrary, contrary[::-1])
                word, ring = with_wishes(tree, wishes)
                self.assertEqual((word, sorted(ring)), ("ring", [1, 2]))
                self.assertEqual(count_with_wishes(tree, wishes), 0)
            self.assertEqual(count_with_wishes(tree, ((last, 0),)), count(tree) // 2)

    def test_an_any_of_8_parts(self):
        eight = ("any", tuple(range(8)))
        self.assertEqual(count_with_wishes(eight, ()), math.factorial(8))
        self.assertEqual(count_with_wishes(eight, tuple((0, other) for other in range(1, 8))), math.factorial(7))
        self.assertEqual(count_with_wishes(eight, ((0, 1), (2, 3), (4, 5), (6, 7))), math.factorial(8) // 16)
        self.assertEqual(count_with_wishes(BLOCKS_8, ()), math.factorial(8) * 6 ** 8)
        self.assertEqual(count_with_wishes(BLOCKS_8, ((0, 1), (0, 3), (1, 4), (9, 6))), math.factorial(8) * 6 ** 8 // 8)
        self.assertEqual(count_with_wishes(ROWS_8, ((0, 8), (16, 1), (8, 9), (1, 9))), math.factorial(8) * 2 ** 8 // 8)
        self.assertEqual(count_with_wishes(NESTED_8, ((0, 1), (7, 21), (14, 21))), math.factorial(8) ** 3 // 8)

    def test_drawn_wishes_for_8_parts_against_all_sequences(self):
        chance = random.Random(85)
        eight = ("any", tuple(range(8)))
        orders = brute.orders_of(8)
        for many in (2, 4, 6, 9):
            wishes = drawn_wishes(8, many, chance)
            self.assertEqual(count_with_wishes(eight, wishes), sum(brute.keeps(order, wishes) for order in orders))
            order = chance.choice(orders)
            wishes = tuple(chance.sample(list(itertools.combinations(order, 2)), many))
            self.assertEqual(count_with_wishes(eight, wishes), sum(brute.keeps(each, wishes) for each in orders))

    def test_drawn_wishes(self):
        chance = random.Random(86)
        told = {"order": 0, "ring": 0}
        for tree in (ALL_24, *NARROW):
            n = len(brute.leaves(tree))
            for many in (1, 2, 4, 8, 16, 60):
                wishes = drawn_wishes(n, many, chance)
                word, value = with_wishes(tree, wishes)
                if word == "order":
                    self.assertIs(tells(tree, value), True)
                    self.assertTrue(brute.keeps(value, wishes))
                else:
                    self.assertTrue(brute.is_wish_ring(tree, wishes, value))
                    self.assertIs(is_wish_ring(tree, wishes, value), True)
                if tree != ALL_24:
                    self.assertEqual(count_with_wishes(tree, wishes) > 0, word == "order")
                told[word] += 1
        self.assertGreater(min(told.values()), 5)

    def test_how_long_each_takes(self):
        for tree in (ALL_24, *NARROW):
            n = len(brute.leaves(tree))
            order = order_at(tree, count(tree) - 1)
            for wishes in (tuple(itertools.permutations(range(n), 2)), tuple(itertools.combinations(order, 2))):
                begun = time.perf_counter()
                with_wishes(tree, wishes)
                is_wish_ring(tree, wishes, tuple(range(len(wishes))))
                if tree != ALL_24:
                    count_with_wishes(tree, wishes)
                self.assertLess(time.perf_counter() - begun, 2)


class IsWishRing(unittest.TestCase):
    def test_all_indexes_of_a_few_wishes(self):
        chance = random.Random(87)
        for tree in brute.trees_over((0, 1, 2)) + chance.sample(brute.trees_over((0, 1, 2, 3)), 40):
            n = len(brute.leaves(tree))
            wishes = drawn_wishes(n, 4, chance)
            shuffled = brute.shuffled(tree, chance)
            for many in range(4):
                for indexes in itertools.product(range(-1, 5), repeat=many):
                    self.assertIs(is_wish_ring(shuffled, wishes, indexes), brute.is_wish_ring(tree, wishes, indexes))

    def test_rings_in_drawn_trees(self):
        chance = random.Random(88)
        for tree in chance.sample(brute.trees_over(tuple(range(6))), 150):
            wishes = tuple(itertools.permutations(range(6), 2))
            for _ in range(40):
                indexes = tuple(chance.randrange(30) for _ in range(chance.choice((1, 2, 2, 2, 3, 3, 4))))
                self.assertIs(is_wish_ring(tree, wishes, indexes), brute.is_wish_ring(tree, wishes, indexes))

    def test_an_any_with_a_change(self):
        tree = ("any", (("any", (0, 1)), ("row", (2, 3, 4)), 5, 6))
        wishes = ((0, 2), (3, 5), (5, 1), (0, 1), (2, 4), (4, 2), (5, 6), (1, 0), (2, 0))
        for ring in ((0, 1, 2), (1, 2, 0), (2, 0, 1), (0, 8), (8, 0), (3, 7), (4, 5)):
            self.assertIs(is_wish_ring(tree, wishes, ring), True)
        for ring in ((), (0,), (3,), (0, 1), (1, 2), (0, 2), (0, 2, 1), (2, 1, 0), (0, 1, 2, 6), (0, 1, 6),
                     (0, 1, 2, 3), (3, 0, 1, 2), (0, 1, 1, 2), (3, 4), (3, 4, 5, 7), (3, 3), (0, 0), (0, 1, 9),
                     (0, 1, -7), (-9, -8, -7), (0, 1, HUGE), (9,), (-1,), (0, 1, 2, 9), (8, 1, 2)):
            self.assertIs(is_wish_ring(tree, wishes, ring), False)

    def test_an_index_twice(self):
        # Point 6.8 does not ask for different indexes, but it does ask for exactly two wishes of a row.
        self.assertIs(is_wish_ring(("any", (0, 1)), ((0, 1), (1, 0)), (0, 1, 0, 1)), True)
        self.assertIs(is_wish_ring(("any", (0, 1)), ((0, 1), (1, 0)), (0, 1, 0)), False)
        self.assertIs(is_wish_ring(("any", (0, 1)), ((0, 1), (1, 0)), (0, 0)), False)
        self.assertIs(is_wish_ring(("row", (0, 1, 2)), ((0, 1), (1, 0)), (0, 1, 0, 1)), False)
        self.assertIs(is_wish_ring(("row", (0, 1, 2)), ((0, 1), (1, 0)), (0, 0)), False)

    def test_a_row_with_a_change(self):
        tree = ("row", (("any", (0, 1)), 2, ("row", (3, 4, 5))))
        wishes = ((0, 2), (2, 1), (3, 1), (1, 4), (0, 1), (3, 4), (1, 0), (5, 3))
        for ring in ((0, 1), (1, 0), (0, 2), (2, 0), (3, 1), (2, 3), (4, 6), (5, 7)):
            self.assertIs(is_wish_ring(tree, wishes, ring), True)
        for ring in ((), (0,), (1,), (0, 3), (1, 2), (0, 1, 2), (0, 1, 0, 1), (0, 0), (1, 1), (4, 5), (0, 4), (0, 6),
                     (5, 1), (0, 1, 3, 2), (5, 5), (4,), (0, 8), (0, -7)):
            self.assertIs(is_wish_ring(tree, wishes, ring), False)

    def test_wishes_of_two_different_subtrees(self):
        tree = ("any", (("any", (0, 1)), ("any", (2, 3))))
        wishes = ((0, 1), (3, 2), (1, 0), (2, 3), (0, 2), (2, 1))
        for ring, well in (((0, 2), True), ((1, 3), True), ((4, 5), True), ((0, 1), False), ((0, 3), False),
                           ((0, 2, 1, 3), False), ((0, 4, 5), False), ((4, 1, 5), False), ((4, 3, 5), False)):
            self.assertIs(is_wish_ring(tree, wishes, ring), well)


class Refused(unittest.TestCase):
    def test_counting_for_an_any_of_more_than_8_parts_anywhere(self):
        for tree in TOO_WIDE:
            for wishes in ((), ((0, 1),), ((0, 1), (1, 0))):
                with self.assertRaises(OutOfRange):
                    count_with_wishes(tree, wishes)

    def test_nothing_else(self):
        for tree in TOO_WIDE:
            word, order = with_wishes(tree, ((0, 1),))
            self.assertEqual(word, "order")
            self.assertTrue(order.index(0) < order.index(1))
            word, ring = with_wishes(tree, ((0, 1), (1, 0)))
            self.assertEqual((word, sorted(ring)), ("ring", [0, 1]))
            self.assertIs(is_wish_ring(tree, ((0, 1), (1, 0)), (0, 1)), True)
        for tree in (ROW_24, ("row", tuple(range(9))), ("any", tuple(range(8))), ("row", (NESTED_8, 22, 23))):
            self.assertEqual(count_with_wishes(tree, ()), count(tree))


class WhichErrorComesFirst(unittest.TestCase):
    def test_wishes_that_are_none(self):
        for tree in FORMS:
            for wish in BAD_WISHES:
                for wishes in ((wish,), ((0, 1), wish), (wish, (0, 1), (1, 0)), ((0, 1), (1, 0), wish)):
                    self.assertRaises(OutOfRange, with_wishes, tree, wishes)
                    self.assertRaises(OutOfRange, count_with_wishes, tree, wishes)
                    for indexes in ((), (0, 1), (1, 2), (HUGE,)):
                        self.assertRaises(OutOfRange, is_wish_ring, tree, wishes, indexes)
        for wish in ((0, 0), (0, 1), ()):
            self.assertRaises(OutOfRange, with_wishes, 0, (wish,))
            self.assertRaises(OutOfRange, count_with_wishes, 0, (wish,))
            self.assertRaises(OutOfRange, is_wish_ring, 0, (wish,), ())
        for wish in ((9, 0), (0, 0), (0, 1, 2)):
            self.assertRaises(OutOfRange, count_with_wishes, NINE, (wish,))

    def test_a_bad_tree_comes_first(self):
        for tree in BAD_TREES:
            for wishes in ((), ((0, 1),), ((1, 0), (0, 1))) + tuple((wish,) for wish in BAD_WISHES):
                self.assertRaises(InvalidTree, with_wishes, tree, wishes)
                self.assertRaises(InvalidTree, count_with_wishes, tree, wishes)
                self.assertRaises(InvalidTree, is_wish_ring, tree, wishes, (0, 1))
