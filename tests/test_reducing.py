"""Points 2.3, 2.6 and 3.1, and the heading unpartedrows/reducing.py."""

import itertools
import math
import random
import unittest

import brute
from unpartedrows.errors import InvalidTable, InvalidTree
from unpartedrows.reducing import common, reduced, tree_of
from unpartedrows.telling import count, tells
from unpartedrows.trees import check_tree, normal, plain_tree, sets_of

HUGE = 10 ** 6000
NO_NUMBERS = (0, 25, -1, 26, 100, HUGE, -HUGE)
ALL_24 = ("any", tuple(range(24))[::-1])
ROW_24 = ("row", tuple(range(24))[::-1])
BAD_TREES = (1, -1, HUGE, ("any", (0, 2)), ("any", (0, 0)), ("any", (0,)), ("row", (0, 1)), ("all", (0, 1)), (),
             ("any", (0, 1), 2), ("any", tuple(range(25))), ("any", (0, ("any", (1, 3)))))
BAD_SETS = ((3,), (1, 0), (1, 1), (-1,), (0, 1, 2, 3), (HUGE,))


def told_by(tree):
    """The set of the orders that the tree tells; the empty one for None."""
    return set() if tree is None else set(brute.told(tree))


class Held(unittest.TestCase):
    def hold(self, n, tree, orders):
        """The value is the normal form of a tree that tells exactly these orders, or None if there are none."""
        if not orders:
            self.assertIsNone(tree)
            return
        self.assertIs(check_tree(n, tree), tree)
        self.assertTrue(brute.is_normal(tree))
        self.assertEqual(told_by(tree), set(orders))


class Reduced(Held):
    def test_all_small_trees_by_all_sets(self):
        chance = random.Random(7)
        for n in range(1, 6):
            for tree in brute.trees_over(tuple(range(n))):
                orders = brute.told(tree)
                shuffled = brute.shuffled(tree, chance)
                for chosen in brute.sets_below(n):
                    self.hold(n, reduced(shuffled, chosen),
                              [order for order in orders if brute.is_together(order, chosen)])

    def test_some_trees_over_six_things_by_all_sets(self):
        chance = random.Random(8)
        for tree in chance.sample(brute.trees_over(tuple(range(6))), 120):
            orders = brute.told(tree)
            shuffled = brute.shuffled(tree, chance)
            for chosen in brute.sets_below(6):
                self.hold(6, reduced(shuffled, chosen),
                          [order for order in orders if brute.is_together(order, chosen)])

    def test_some_trees_over_seven_things(self):
        trees = (
            ("row", (("any", (0, 1)), ("any", (2, 3)), ("row", (4, 5, 6)))),
            ("any", (("row", (6, 0, 3)), ("any", (1, 2)), ("any", (4, 5)))),
            ("row", (("row", (0, 1, 2)), 3, ("row", (6, 5, 4)))),
            ("any", (("row", (("any", (0, 1)), 2, 3)), ("row", (4, ("any", (5, 6)), ("any", (7, 8)))))),
        )
        for tree in trees[:3]:
            orders = brute.told(tree)
            for chosen in brute.sets_below(7):
                self.hold(7, reduced(tree, chosen),
                          [order for order in orders if brute.is_together(order, chosen)])
        orders = brute.told(trees[3])
        for chosen in brute.sets_below(9):
            self.hold(9, reduced(trees[3], chosen),
                      [order for order in orders if brute.is_together(order, chosen)])

    def test_examples(self):
        self.assertEqual(reduced(("any", (3, 2, 1, 0)), (1, 3)), ("any", (0, ("any", (1, 3)), 2)))
        self.assertEqual(reduced(("any", (0, ("any", (1, 3)), 2)), (2, 3)), ("any", (0, ("row", (1, 3, 2)))))
        self.assertEqual(reduced(("row", (3, 2, 1, 0)), (1, 2)), ("row", (0, 1, 2, 3)))
        self.assertIsNone(reduced(("row", (3, 2, 1, 0)), (1, 3)))
        self.assertIsNone(reduced(("any", (("any", (0, 1)), ("any", (2, 3)), ("any", (4, 5)))), (0, 2, 4)))

    def test_sets_that_change_nothing(self):
        chance = random.Random(9)
        for tree in brute.trees_over(tuple(range(5))):
            shuffled = brute.shuffled(tree, chance)
            for chosen in ((), (0,), (1,), (2,), (3,), (4,), (0, 1, 2, 3, 4)) + sets_of(tree):
                self.assertEqual(reduced(shuffled, chosen), tree)
        for chosen in ((), (0,)):
            self.assertEqual(reduced(0, chosen), 0)

    def test_the_greatest_trees(self):
        everything = tuple(range(24))
        for chosen in ((), (0,), (23,), everything):
            self.assertEqual(reduced(ALL_24, chosen), normal(ALL_24))
            self.assertEqual(reduced(ROW_24, chosen), normal(ROW_24))
        self.assertEqual(reduced(ALL_24, everything[2:]), ("any", (0, 1, ("any", everything[2:]))))
        self.assertEqual(reduced(ALL_24, everything[:12]), ("any", (("any", everything[:12]),) + everything[12:]))
        self.assertEqual(reduced(ROW_24, everything[5:20]), ("row", everything))
        for chosen in ((0, 2), (0, 23), everything[:5] + everything[6:], (3, 4, 5, 7)):
            self.assertIsNone(reduced(ROW_24, chosen))
        deep = 0
        for thing in range(1, 24):
            deep = ("any", (thing, deep))
        self.assertEqual(reduced(deep, everything[1:]), ("row", everything))
        self.assertEqual(reduced(deep, (0, 23)), ("row", everything[22::-1] + (23,)))
        self.assertEqual(reduced(deep, everything[:23:2]),
                         ("any", (("row", everything[21::-2] + everything[:23:2]), 23)))
        self.assertIsNone(reduced(reduced(deep, everything[1:]), (0, 23)))


class TreeOf(Held):
    def test_all_tables_of_three_things(self):
        for many in range(4):
            for sets in itertools.product(brute.sets_below(3), repeat=many):
                self.hold(3, tree_of(3, sets), brute.fitting(3, sets))

    def test_all_tables_of_four_things(self):
        kept = [chosen for chosen in brute.sets_below(4) if 1 < len(chosen) < 4]
        for many in range(len(kept) + 1):
            for sets in itertools.combinations(kept, many):
                self.hold(4, tree_of(4, sets), brute.fitting(4, sets))

    def test_tables_of_up_to_three_sets_of_five_things(self):
        kept = [chosen for chosen in brute.sets_below(5) if 1 < len(chosen) < 5]
        fitting = {chosen: set(brute.fitting(5, (chosen,))) for chosen in kept}
        for many in range(1, 4):
            for sets in itertools.combinations(kept, many):
                orders = set.intersection(*[fitting[chosen] for chosen in sets])
                self.hold(5, tree_of(5, sets), orders)

    def test_some_tables_of_six_things(self):
        chance = random.Random(10)
        every = brute.sets_below(6)
        for _ in range(250):
            sets = tuple(chance.choice(every) for _ in range(chance.randint(0, 7)))
            self.hold(6, tree_of(6, sets), brute.fitting(6, sets))

    def test_some_tables_that_an_order_fits(self):
        chance = random.Random(11)
        for _ in range(150):
            order = chance.sample(range(6), 6)
            ends = [sorted(chance.sample(range(7), 2)) for _ in range(chance.randint(1, 6))]
            sets = tuple(tuple(sorted(order[low:high])) for low, high in ends)
            tree = tree_of(6, sets)
            self.assertIsNotNone(tree)
            self.hold(6, tree, brute.fitting(6, sets))

    def test_tables_without_sets_and_with_sets_that_change_nothing(self):
        for n in range(1, 25):
            idle = ((), tuple(range(n)), (0,), (n - 1,))
            for sets in ((), ((),), idle, idle * 10):
                self.assertEqual(tree_of(n, sets), plain_tree(n))
        for chosen in (((0, 2), (1, 2)), ((0, 2), (1, 2), (0, 1)), ((0, 1, 2), (2, 3, 4), (1, 3))):
            expected = tree_of(5, chosen)
            self.assertEqual(tree_of(5, chosen + ((), (3,), (0, 1, 2, 3, 4))), expected)
            self.assertEqual(tree_of(5, ((), (3,), (0, 1, 2, 3, 4)) + chosen), expected)

    def test_sets_that_stand_twice_and_in_another_sequence(self):
        chance = random.Random(12)
        every = brute.sets_below(6)
        for _ in range(150):
            sets = tuple(chance.choice(every) for _ in range(chance.randint(1, 5)))
            expected = tree_of(6, sets)
            self.assertEqual(tree_of(6, sets + sets), expected)
            for other in itertools.permutations(sets):
                self.assertEqual(tree_of(6, other), expected)

    def test_a_tree_is_the_tree_of_its_sets(self):
        for n in range(1, 6):
            for tree in brute.trees_over(tuple(range(n))):
                self.assertEqual(tree_of(n, sets_of(tree)), tree)

    def test_examples(self):
        self.assertEqual(tree_of(1, ()), 0)
        self.assertEqual(tree_of(2, ((0, 1),)), ("any", (0, 1)))
        self.assertEqual(tree_of(3, ((0, 1), (1, 2))), ("row", (0, 1, 2)))
        self.assertEqual(tree_of(3, ((1, 2), (0, 2))), ("row", (0, 2, 1)))
        self.assertIsNone(tree_of(3, ((0, 1), (1, 2), (0, 2))))
        self.assertEqual(tree_of(5, ((0, 1, 2), (2, 3))), ("any", (("row", (("any", (0, 1)), 2, 3)), 4)))
        self.assertEqual(tree_of(6, ((0, 1), (1, 2), (3, 4))), ("any", (("row", (0, 1, 2)), ("any", (3, 4)), 5)))

    def test_the_greatest_tables(self):
        pairs = tuple((thing, thing + 1) for thing in range(23))
        triples = tuple((thing, thing + 1, thing + 2) for thing in range(17))
        self.assertEqual(tree_of(24, pairs + triples), normal(ROW_24))
        self.assertEqual(tree_of(24, triples + pairs[::-1]), normal(ROW_24))
        self.assertIsNone(tree_of(24, pairs + ((0, 23),)))
        self.assertEqual(tree_of(24, ((0, 1),) * 40), ("any", (("any", (0, 1)),) + tuple(range(2, 24))))
        blocks = tuple((low, low + 1) for low in range(0, 24, 2)) * 3
        self.assertEqual(count(tree_of(24, blocks)), math.factorial(12) * 2 ** 12)
        growing = tuple(tuple(range(many)) for many in range(25))
        self.assertEqual(count(tree_of(24, growing)), 2 ** 23)

    def test_greatest_tables_that_an_order_fits(self):
        chance = random.Random(13)
        for _ in range(40):
            order = chance.sample(range(24), 24)
            ends = [sorted(chance.sample(range(25), 2)) for _ in range(40)]
            sets = tuple(tuple(sorted(order[low:high])) for low, high in ends)
            tree = tree_of(24, sets)
            self.assertIs(check_tree(24, tree), tree)
            self.assertTrue(brute.is_normal(tree))
            self.assertIs(tells(tree, tuple(order)), True)
            # All sets of the tree stand together in each order that fits, and the other way round.
            self.assertEqual(tree_of(24, sets_of(tree)), tree)
            self.assertEqual(common(tree_of(24, sets[:20]), tree_of(24, sets[20:])), tree)
            for chosen in sets:
                self.assertEqual(reduced(tree, chosen), tree)


class Common(Held):
    def test_all_pairs_of_trees_over_up_to_four_things(self):
        chance = random.Random(14)
        for n in range(1, 5):
            trees = [(brute.shuffled(tree, chance), set(brute.told(tree)))
                     for tree in brute.trees_over(tuple(range(n)))]
            for (tree, orders), (other, others) in itertools.product(trees, repeat=2):
                self.hold(n, common(tree, other), orders & others)

    def test_some_pairs_of_trees_over_more_things(self):
        chance = random.Random(15)
        for n, many in ((5, 600), (6, 150)):
            trees = brute.trees_over(tuple(range(n)))
            for _ in range(many):
                tree, other = chance.choice(trees), chance.choice(trees)
                self.hold(n, common(brute.shuffled(tree, chance), brute.shuffled(other, chance)),
                          told_by(tree) & told_by(other))

    def test_with_itself_and_with_the_plain_tree(self):
        chance = random.Random(16)
        for n in range(1, 6):
            for tree in brute.trees_over(tuple(range(n))):
                self.assertEqual(common(brute.shuffled(tree, chance), tree), tree)
                self.assertEqual(common(brute.shuffled(tree, chance), plain_tree(n)), tree)
                self.assertEqual(common(plain_tree(n), brute.shuffled(tree, chance)), tree)

    def test_the_greatest_trees(self):
        self.assertEqual(common(ALL_24, ROW_24), normal(ROW_24))
        self.assertEqual(common(ROW_24, ALL_24), normal(ROW_24))
        self.assertEqual(common(ALL_24, ALL_24), normal(ALL_24))
        swapped = ("row", (1, 0) + tuple(range(2, 24)))
        self.assertIsNone(common(ROW_24, swapped))
        either = ("row", (("any", (0, 1)),) + tuple(range(2, 24)))
        self.assertEqual(common(swapped, either), ("row", (1, 0) + tuple(range(2, 24))))


class WhichErrorComesFirst(unittest.TestCase):
    def test_a_bad_tree_comes_first(self):
        for tree in BAD_TREES:
            for chosen in ((), (0,)) + BAD_SETS:
                with self.assertRaises(InvalidTree):
                    reduced(tree, chosen)
            for other in (0, ("any", (0, 1))) + BAD_TREES:
                with self.assertRaises(InvalidTree):
                    common(tree, other)

    def test_the_set_must_be_one_of_the_things_of_the_tree(self):
        for tree in (("any", (2, 1, 0)), ("row", (1, 2, 0)), ("any", (0, ("any", (1, 2))))):
            for chosen in BAD_SETS:
                with self.assertRaises(InvalidTable):
                    reduced(tree, chosen)
        for chosen in ((1,), (0, 0), (0, 1), (-1,)):
            with self.assertRaises(InvalidTable):
                reduced(0, chosen)

    def test_the_other_tree_must_be_over_the_same_things(self):
        for other in (0, ("any", (0, 1)), ("any", (0, 1, 2, 3)), ("row", (0, 1, 3))) + BAD_TREES:
            for tree in (("any", (2, 1, 0)), ("row", (1, 2, 0))):
                with self.assertRaises(InvalidTree):
                    common(tree, other)

    def test_a_table_must_be_one_of_so_many_things(self):
        for chosen in BAD_SETS:
            for sets in ((chosen,), ((0, 1), (1, 2), (0, 2), chosen), (chosen, (0, 1), (1, 2), (0, 2))):
                with self.assertRaises(InvalidTable):
                    tree_of(3, sets)
        for sets in (((0, 1),) * 41, ((),) * 41):
            with self.assertRaises(InvalidTable):
                tree_of(3, sets)

    def test_no_table_for_other_numbers_of_things(self):
        for n in NO_NUMBERS:
            for sets in ((), ((),), ((0,),), ((0, 1), (-1,))):
                with self.assertRaises(InvalidTable):
                    tree_of(n, sets)

