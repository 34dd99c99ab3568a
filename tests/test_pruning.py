"""Points 1.2 and 6.9, and the heading unpartedrows/pruning.py."""

import itertools
import random
import time
import unittest

import brute
from samples import ALL_24, BAD_ORDERS, BAD_SETS, BAD_TREES, FORMS, GREATEST, HUGE, MIXED_24, NESTED_8, ROW_24
from unpartedrows.errors import InvalidOrder, InvalidTable, InvalidTree, OutOfRange
from unpartedrows.pruning import gaps, pruned
from unpartedrows.reducing import common
from unpartedrows.telling import count, order_at, tells
from unpartedrows.trees import normal, things_of
from unpartedrows.wishes import with_wishes


class Held(unittest.TestCase):
    def hold(self, tree, orders, things):
        """The pruned tree has the normal form, and tells what is left of these orders."""
        found = pruned(tree, things)
        self.assertEqual(things_of(found), things)
        self.assertEqual(normal(found), found)
        self.assertTrue(brute.is_normal(found))
        self.assertEqual(sorted(brute.told(found)), sorted({brute.left_of(order, things) for order in orders}))


class SmallTrees(Held):
    def test_all_trees_over_up_to_five_things_by_all_sets(self):
        chance = random.Random(101)
        for n in range(1, 6):
            for tree in brute.trees_over(tuple(range(n))):
                orders = brute.told(tree)
                shuffled = brute.shuffled(tree, chance)
                for things in brute.sets_below(n)[1:]:
                    self.hold(shuffled, orders, things)

    def test_trees_over_six_and_seven_things(self):
        chance = random.Random(102)
        trees = chance.sample(brute.trees_over(tuple(range(6))), 40)
        trees.append(("row", (("any", (0, 1)), ("any", (2, 3)), ("row", (4, 5, 6)))))
        trees.append(("any", (("row", (6, 0, 3)), ("any", (1, ("row", (2, 4, 5)))))))
        for tree in trees:
            orders = brute.told(tree)
            shuffled = brute.shuffled(tree, chance)
            for things in brute.sets_below(len(orders[0]))[1:]:
                self.hold(shuffled, orders, things)

    def test_examples(self):
        tree = ("row", (3, ("any", (2, 0)), 1))
        self.assertEqual(pruned(tree, (0, 1, 2, 3)), ("row", (1, ("any", (0, 2)), 3)))
        self.assertEqual(pruned(tree, (0, 1, 3)), ("row", (1, 0, 3)))
        self.assertEqual(pruned(tree, (0, 2, 3)), ("any", (("any", (0, 2)), 3)))
        self.assertEqual(pruned(tree, (1, 3)), ("any", (1, 3)))
        self.assertEqual(pruned(tree, (0, 2)), ("any", (0, 2)))
        self.assertEqual(pruned(tree, (2,)), 2)
        self.assertEqual(pruned(0, (0,)), 0)


class FewThings(Held):
    def test_to_one_thing_to_two_and_to_all(self):
        for tree in GREATEST + FORMS:
            everything = things_of(tree)
            self.assertEqual(pruned(tree, everything), normal(tree))
            for thing in everything:
                self.assertEqual(pruned(tree, (thing,)), thing)
            for pair in itertools.combinations(everything, 2):
                self.assertEqual(pruned(tree, pair), ("any", pair))

    def test_an_any_keeps_some_parts(self):
        for word, parts in (("any", (5, 3, 4)), ("row", (5, 3, 4))):
            tree = ("any", ((word, parts), 0, 1, 2))
            self.assertEqual(pruned(tree, (0, 1, 2)), ("any", (0, 1, 2)))
            self.assertEqual(pruned(tree, (0, 1, 5)), ("any", (0, 1, 5)))
            self.assertEqual(pruned(tree, (0, 4, 5)), ("any", (0, ("any", (4, 5)))))
            self.assertEqual(pruned(tree, (4, 5)), ("any", (4, 5)))
            self.assertEqual(pruned(tree, (3, 4, 5)), normal((word, parts)))

    def test_a_row_keeps_some_parts(self):
        for word, parts in (("any", (5, 3, 4)), ("row", (5, 3, 4))):
            tree = ("row", (2, (word, parts), 1, 0))
            self.assertEqual(pruned(tree, (0, 1, 2)), ("row", (0, 1, 2)))
            self.assertEqual(pruned(tree, (0, 2, 3)), ("row", (0, 3, 2)))
            self.assertEqual(pruned(tree, (0, 4, 5)), ("any", (0, ("any", (4, 5)))))
            self.assertEqual(pruned(tree, (1, 2)), ("any", (1, 2)))
            self.assertEqual(pruned(tree, (4, 5)), ("any", (4, 5)))
            self.assertEqual(pruned(tree, (3, 4, 5)), normal((word, parts)))

    def test_the_normal_form_may_have_the_parts_in_another_sequence(self):
        self.assertEqual(pruned(("row", (("any", (0, 4)), 1, 2, 3)), (1, 2, 4)), ("row", (2, 1, 4)))
        self.assertEqual(pruned(("any", (("any", (0, 4)), 1, 2, 3)), (1, 2, 4)), ("any", (1, 2, 4)))
        self.assertEqual(pruned(("any", (("row", (0, 5, 4)), ("any", (3, 1, 2)))), (1, 2, 4, 5)),
                         ("any", (("any", (1, 2)), ("any", (4, 5)))))


class GreatTrees(unittest.TestCase):
    def test_trees_one_within_the_other(self):
        deep_any = brute.deep_any(24)
        for many in range(1, 25):
            self.assertEqual(pruned(deep_any, tuple(range(many))), normal(brute.deep_any(many)))
        for many in range(1, 24, 2):
            self.assertEqual(pruned(brute.deep_rows(23), tuple(range(many))), normal(brute.deep_rows(many)))
        tree = 0
        for thing in range(2, 23, 2):
            tree = ("any", (tree, thing))
        self.assertEqual(pruned(deep_any, tuple(range(0, 24, 2))), normal(tree))
        self.assertEqual(pruned(brute.deep_rows(23), tuple(range(0, 23, 2))), normal(tree))

    def test_wide_trees(self):
        for things in (tuple(range(0, 24, 2)), tuple(range(3)), (0, 12, 23), tuple(range(1, 24))):
            self.assertEqual(pruned(ALL_24, things), ("any", things))
            self.assertEqual(pruned(ROW_24, things), ("row", things))

    def test_drawn_sets(self):
        chance = random.Random(103)
        for tree in GREATEST + (NESTED_8,):
            everything = things_of(tree)
            for _ in range(20):
                things = tuple(sorted(chance.sample(everything, chance.randint(1, len(everything)))))
                found = pruned(tree, things)
                names = {thing: at for at, thing in enumerate(things)}
                renamed = brute.renamed(found, names)
                order = order_at(tree, chance.randrange(count(tree)))
                left = tuple(names[thing] for thing in brute.left_of(order, things))
                self.assertIs(tells(renamed, left), True)
                # In two steps the same is left.
                fewer = tuple(sorted(chance.sample(things, chance.randint(1, len(things)))))
                again = pruned(renamed, tuple(names[thing] for thing in fewer))
                self.assertEqual(pruned(tree, fewer), normal(brute.renamed(again, dict(enumerate(things)))))

    def test_how_long_each_takes(self):
        for tree in GREATEST:
            everything = things_of(tree)
            for things in (everything, everything[::2], everything[1::2]):
                begun = time.perf_counter()
                pruned(tree, things)
                self.assertLess(time.perf_counter() - begun, 2)


class WishesKept(unittest.TestCase):
    """Point 6.8 with 6.9."""

    def test_what_a_told_order_keeps_the_pruned_tree_keeps(self):
        chance = random.Random(104)
        for tree in brute.trees_over(tuple(range(4))) + [MIXED_24, NESTED_8]:
            n = len(things_of(tree))
            for _ in range(15):
                things = tuple(sorted(chance.sample(range(n), chance.randint(2, n))))
                names = {thing: at for at, thing in enumerate(things)}
                order = order_at(tree, chance.randrange(count(tree)))
                wishes = [pair for pair in itertools.combinations(brute.left_of(order, things), 2)]
                wishes = chance.sample(wishes, min(len(wishes), 6))
                self.assertEqual(with_wishes(tree, tuple(wishes))[0], "order")
                renamed = brute.renamed(pruned(tree, things), names)
                kept = tuple((names[a], names[b]) for a, b in wishes)
                word, found = with_wishes(renamed, kept)
                self.assertEqual(word, "order")
                self.assertTrue(brute.keeps(found, kept))

    def test_wishes_that_no_order_of_the_pruned_tree_keeps_no_told_order_keeps(self):
        for tree in brute.trees_over(tuple(range(4))):
            for thing in range(4):
                things = tuple(each for each in range(4) if each != thing)
                names = {each: at for at, each in enumerate(things)}
                renamed = brute.renamed(pruned(tree, things), names)
                for wishes in itertools.combinations(itertools.permutations(things, 2), 2):
                    kept = tuple((names[a], names[b]) for a, b in wishes)
                    self.assertEqual(with_wishes(renamed, kept)[0], with_wishes(tree, wishes)[0])


class Gaps(unittest.TestCase):
    def test_all_orders_of_few_things_and_all_sets(self):
        for n in range(1, 6):
            sets = tuple(brute.sets_below(n))
            for order in brute.orders_of(n):
                self.assertEqual(gaps(order, sets), tuple(brute.gap_count(order, chosen) for chosen in sets))

    def test_a_set_has_no_gap_exactly_if_it_stands_together(self):
        sets = tuple(chosen for chosen in brute.sets_below(6) if len(chosen) in (2, 4, 5))
        for order in random.Random(105).sample(brute.orders_of(6), 100):
            self.assertEqual([many == 0 for many in gaps(order, sets)],
                             [brute.is_together(order, chosen) for chosen in sets])

    def test_drawn_orders_of_more_things(self):
        chance = random.Random(106)
        for n in range(6, 25):
            order = tuple(chance.sample(range(n), n))
            sets = brute.drawn_sets(n, 40, chance)
            found = gaps(order, sets)
            self.assertIs(type(found), tuple)
            self.assertEqual(found, tuple(brute.gap_count(order, chosen) for chosen in sets))

    def test_edges(self):
        everything = tuple(range(24))
        for order in (everything, everything[::-1]):
            self.assertEqual(gaps(order, ((), (0,), (11,), (23,), everything)), (0, 0, 0, 0, 0))
            self.assertEqual(gaps(order, (everything[::2], everything[1::2])), (11, 11))
            self.assertEqual(gaps(order, ((0, 1, 2), (21, 22, 23), (0, 23), (0, 1, 22, 23))), (0, 0, 1, 1))
            self.assertEqual(gaps(order, ((0, 2), (1, 3), (0, 2, 3, 23), (3, 9, 15, 21))), (1, 1, 2, 3))
            self.assertEqual(gaps(order, ()), ())
        self.assertEqual(gaps((0,), ()), ())
        self.assertEqual(gaps((0,), ((), (0,), (0,))), (0, 0, 0))
        self.assertEqual(gaps((1, 2, 0), ((0, 1), (0, 1), (0, 2))), (1, 1, 0))

    def test_how_long_it_takes(self):
        begun = time.perf_counter()
        self.assertEqual(gaps(tuple(range(24)), (tuple(range(0, 24, 2)),) * 40), (11,) * 40)
        self.assertLess(time.perf_counter() - begun, 2)


class WhichErrorComesFirst(unittest.TestCase):
    def test_a_bad_tree_comes_first(self):
        for tree in BAD_TREES:
            for things in BAD_SETS + ((), (0,), (0, 1)):
                self.assertRaises(InvalidTree, pruned, tree, things)

    def test_then_a_bad_set(self):
        for tree in FORMS:
            for things in BAD_SETS:
                self.assertRaises(InvalidTable, pruned, tree, things)
        for things in ((1,), (0, 0), (0, 1), (-1,), (-HUGE,)):
            self.assertRaises(InvalidTable, pruned, 0, things)
        self.assertRaises(InvalidTable, pruned, ALL_24, (0, 24))

    def test_then_the_empty_set(self):
        for tree in FORMS + GREATEST + (0,):
            self.assertRaises(OutOfRange, pruned, tree, ())

    def test_a_bad_order_comes_before_a_bad_table(self):
        tables = [(), ((0, 1),), ((),) * 41] + [((), chosen) for chosen in BAD_SETS]
        for order in BAD_ORDERS:
            if order not in ((0,), (0, 1), (0, 1, 2, 3)):
                for sets in tables:
                    self.assertRaises(InvalidOrder, gaps, order, sets)

    def test_a_bad_table(self):
        for sets in [((),) * 41, ((0, 1),) * 41] + [((), chosen) for chosen in BAD_SETS]:
            self.assertRaises(InvalidTable, gaps, (1, 2, 0), sets)
        self.assertRaises(InvalidTable, gaps, (0,), ((1,),))


class Together(unittest.TestCase):
    """Point 3.1 with 6.9."""

    def test_the_pruned_common_tree_tells_no_more_than_the_pruned_trees(self):
        chance = random.Random(107)
        trees = brute.trees_over(tuple(range(5)))
        for _ in range(200):
            tree, other = chance.choice(trees), chance.choice(trees)
            both = common(tree, other)
            if both is not None:
                things = tuple(sorted(chance.sample(range(5), 3)))
                told = set(brute.told(pruned(both, things)))
                self.assertLessEqual(told, set(brute.told(pruned(tree, things))))
                self.assertLessEqual(told, set(brute.told(pruned(other, things))))
