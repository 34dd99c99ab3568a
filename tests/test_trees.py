"""Points 2.1, 2.3 and 2.6, and the heading unpartedrows/trees.py."""

import itertools
import random
import unittest

import brute
from unpartedrows.errors import InvalidTree, OutOfRange
from unpartedrows.trees import check_tree, normal, plain_tree, sets_of, things_of

HUGE = 10 ** 6000
NO_NUMBERS = (0, 25, -1, 26, 100, HUGE, -HUGE)


def nested(depth, word="any"):
    """A tree of depth trees one within the other."""
    tree = 0
    for thing in range(1, depth):
        tree = (word, (thing, tree)) if word == "any" else (word, (2 * thing - 1, tree, 2 * thing))
    return tree


# Values of the kind of a tree that have a wrong form, whatever their things.
WRONG_FORMS = (
    ("any", ()), ("any", (0,)), ("row", ()), ("row", (0,)), ("row", (0, 1)),
    ("all", (0, 1, 2)), ("", (0, 1, 2)), ("Any", (0, 1, 2)), ("row ", (0, 1, 2)), ("anyrow", (0, 1, 2)),
    ("%any\n", (0, 1)), (), ("any",), ("row",), ("any", (0, 1), 2), ("any", (0, 1), (2,)), ("any", (0, 1), "any"),
    ((0, 1),), (0, 1, 2), ("row", (0, 1, 2), ("row", (3, 4, 5))), ("any", (0, 1), (2, 3), (4, 5)),
    ("any", (0, ("any", (1,)))), ("any", (0, ("row", (1, 2)))), ("row", (0, 1, ("row", (2, 3)))),
    ("any", (0, ("some", (1, 2)))), ("any", (0, ())), ("row", (0, 1, ("any",))), ("any", (0, ("any", (1, 2), 3))),
    ("any", (("any", (0, 1)), ("any", (("any", (2, 3)), ("row", (4, 5)))))),
)
# Trees but for their things.
WRONG_THINGS = (-1, -HUGE, ("any", (0, 0)), ("any", (0, -1)), ("row", (0, 1, 0)), ("row", (0, 1, -2)),
                ("any", (0, ("any", (1, 0)))), ("any", (("any", (0, 1)), ("any", (1, 2)))),
                ("row", (3, ("any", (1, 2)), 3)), ("any", (5, ("row", (7, 8, 7)))), ("any", (0, ("any", (1, -1)))))


class CheckTree(unittest.TestCase):
    def test_trees_are_returned_as_they_are(self):
        for n in range(1, 6):
            for tree in brute.trees_over(tuple(range(n))):
                self.assertIs(check_tree(n, tree), tree)
        chance = random.Random(1)
        for tree in brute.trees_over(tuple(range(5))):
            other = brute.shuffled(tree, chance)
            self.assertIs(check_tree(5, other), other)

    def test_the_fewest_parts(self):
        self.assertEqual(check_tree(1, 0), 0)
        self.assertEqual(check_tree(2, ("any", (1, 0))), ("any", (1, 0)))
        self.assertEqual(check_tree(3, ("row", (2, 1, 0))), ("row", (2, 1, 0)))

    def test_wrong_forms_are_refused(self):
        for tree in WRONG_FORMS:
            for n in (1, 2, 3, 4, 6):
                with self.subTest(tree=tree, n=n), self.assertRaises(InvalidTree):
                    check_tree(n, tree)

    def test_wrong_things_are_refused(self):
        for tree in WRONG_THINGS:
            for n in (1, 2, 3, 4):
                with self.subTest(n=n), self.assertRaises(InvalidTree):
                    check_tree(n, tree)

    def test_missing_and_other_things_are_refused(self):
        for n, tree in ((1, 1), (2, 0), (2, ("any", (0, 2))), (2, ("any", (1, 2))), (3, ("any", (0, 1))),
                        (2, ("any", (0, 1, 2))), (4, ("row", (0, 1, 2))), (3, ("row", (0, 1, 3))),
                        (3, ("any", (0, ("any", (1, HUGE))))), (2, ("any", (0, HUGE)))):
            with self.subTest(n=n), self.assertRaises(InvalidTree):
                check_tree(n, tree)

    def test_a_tree_over_another_number_of_things(self):
        for n in range(1, 25):
            for other in range(1, 25):
                if n != other:
                    with self.assertRaises(InvalidTree):
                        check_tree(n, plain_tree(other))

    def test_no_tree_for_other_numbers_of_things(self):
        for n in NO_NUMBERS:
            for tree in (0, ("any", (0, 1)), ("any", tuple(range(25))), ("any", tuple(range(26))), ()):
                with self.assertRaises(InvalidTree):
                    check_tree(n, tree)

    def test_the_greatest_trees(self):
        for tree in (("any", tuple(range(24))), ("row", tuple(range(24))[::-1]), nested(24)):
            self.assertIs(check_tree(24, tree), tree)
        tree = nested(12, "row")
        self.assertIs(check_tree(23, tree), tree)
        for tree in (("any", tuple(range(25))), ("row", tuple(range(25)))):
            with self.assertRaises(InvalidTree):
                check_tree(24, tree)

    def test_30_trees_one_within_the_other(self):
        for word in ("any", "row"):
            deep = nested(30, word)
            for n in (24, 30, 25):
                with self.assertRaises(InvalidTree):
                    check_tree(n, deep)
        for word in ("any", "row", "other"):
            deep = 0
            for _ in range(29):
                deep = (word, (deep,))
            with self.assertRaises(InvalidTree):
                check_tree(1, deep)

    def test_a_part_that_stands_twice_at_each_of_30_levels(self):
        doubled = 0
        for _ in range(29):
            doubled = ("any", (doubled, doubled))
        with self.assertRaises(InvalidTree):
            check_tree(24, doubled)
        for function in (things_of, normal, sets_of):
            with self.assertRaises(InvalidTree):
                function(doubled)


class ThingsOf(unittest.TestCase):
    def test_small_trees(self):
        for n in range(1, 6):
            for tree in brute.trees_over(tuple(range(n))):
                self.assertEqual(things_of(tree), tuple(range(n)))

    def test_things_may_be_any_integers_from_0_on(self):
        self.assertEqual(things_of(7), (7,))
        self.assertEqual(things_of(HUGE), (HUGE,))
        self.assertEqual(things_of(("any", (9, HUGE, ("row", (30, 4, 100))))), (4, 9, 30, 100, HUGE))
        self.assertEqual(things_of(("row", (5, ("any", (3, 2)), 1))), (1, 2, 3, 5))
        self.assertEqual(things_of(("any", tuple(range(48, 0, -2)))), tuple(range(2, 49, 2)))

    def test_what_is_no_tree(self):
        for function in (things_of, normal, sets_of):
            for tree in WRONG_FORMS + WRONG_THINGS:
                with self.subTest(function=function.__name__), self.assertRaises(InvalidTree):
                    function(tree)

    def test_deep_trees(self):
        self.assertEqual(things_of(nested(24)), tuple(range(24)))
        deep = 0
        for _ in range(29):
            deep = ("any", (deep,))
        for function in (things_of, normal, sets_of):
            with self.assertRaises(InvalidTree):
                function(deep)


class Normal(unittest.TestCase):
    def test_a_normal_form_is_its_own(self):
        for n in range(1, 6):
            for tree in brute.trees_over(tuple(range(n))):
                self.assertEqual(normal(tree), tree)
                self.assertTrue(brute.is_normal(tree))

    def test_all_forms_of_a_tree_have_one_normal_form(self):
        chance = random.Random(2)
        for n in range(2, 6):
            for tree in brute.trees_over(tuple(range(n))):
                for _ in range(4):
                    self.assertEqual(normal(brute.shuffled(tree, chance)), tree)

    def test_all_sequences_of_parts(self):
        parts = (("any", (4, 2)), ("row", (5, 1, 3)), 0)
        for sequence in itertools.permutations(parts):
            self.assertEqual(normal(("any", sequence)), ("any", (0, ("row", (3, 1, 5)), ("any", (2, 4)))))
        self.assertEqual(normal(("row", parts)), ("row", (0, ("row", (3, 1, 5)), ("any", (2, 4)))))
        self.assertEqual(normal(("row", parts[::-1])), ("row", (0, ("row", (3, 1, 5)), ("any", (2, 4)))))
        self.assertEqual(normal(("row", (parts[1], parts[2], parts[0]))),
                         ("row", (("row", (3, 1, 5)), 0, ("any", (2, 4)))))

    def test_the_least_thing_may_stand_deep_within_a_row(self):
        tree = ("row", (("row", (5, 3, 6)), 2, ("any", (("row", (7, 1, 8)), 4))))
        self.assertEqual(normal(tree), ("row", (("any", (("row", (7, 1, 8)), 4)), 2, ("row", (5, 3, 6)))))
        self.assertEqual(normal(("any", (("row", (5, 3, 6)), 4))), ("any", (("row", (5, 3, 6)), 4)))
        self.assertEqual(normal(("any", (4, ("row", (6, 3, 5))))), ("any", (("row", (5, 3, 6)), 4)))

    def test_it_tells_the_same_orders(self):
        chance = random.Random(3)
        for tree in brute.trees_over(tuple(range(5))):
            other = brute.shuffled(tree, chance)
            self.assertEqual(set(brute.told(normal(other))), set(brute.told(other)))

    def test_same_orders_exactly_if_same_normal_form(self):
        for n in range(1, 6):
            trees = brute.trees_over(tuple(range(n)))
            self.assertEqual(len({frozenset(brute.told(normal(tree))) for tree in trees}), len(trees))

    def test_things_may_be_any_integers_from_0_on(self):
        self.assertEqual(normal(HUGE), HUGE)
        self.assertEqual(normal(("any", (HUGE, 50, ("row", (70, 60, 30))))),
                         ("any", (("row", (30, 60, 70)), 50, HUGE)))

    def test_the_greatest_trees(self):
        self.assertEqual(normal(("any", tuple(range(24))[::-1])), ("any", tuple(range(24))))
        self.assertEqual(normal(("row", tuple(range(24))[::-1])), ("row", tuple(range(24))))
        deep = nested(24)
        form = normal(deep)
        self.assertTrue(brute.is_normal(form))
        self.assertEqual(normal(form), form)
        self.assertEqual(form[1][1], 23)


class PlainTree(unittest.TestCase):
    def test_it_tells_all_orders(self):
        for n in range(1, 7):
            tree = plain_tree(n)
            self.assertEqual(sorted(brute.told(tree)), brute.orders_of(n))
            self.assertTrue(brute.is_normal(tree))

    def test_edges(self):
        self.assertEqual(plain_tree(1), 0)
        self.assertEqual(plain_tree(2), ("any", (0, 1)))
        self.assertEqual(plain_tree(24), ("any", tuple(range(24))))
        for n in range(1, 25):
            self.assertEqual(check_tree(n, plain_tree(n)), plain_tree(n))

    def test_other_numbers_are_refused(self):
        for n in NO_NUMBERS:
            with self.assertRaises(OutOfRange):
                plain_tree(n)


class SetsOf(unittest.TestCase):
    def test_examples(self):
        self.assertEqual(sets_of(0), ())
        self.assertEqual(sets_of(("any", (1, 0))), ((0, 1),))
        self.assertEqual(sets_of(("row", (2, 0, 1))), ((0, 1), (0, 2)))
        self.assertEqual(sets_of(("row", (0, ("any", (3, 1)), ("row", (4, 2, 5))))),
                         ((0, 1, 3), (1, 2, 3, 4, 5), (1, 3), (2, 4), (2, 5)))

    def test_an_order_is_told_exactly_if_all_sets_stand_together(self):
        for n in range(1, 6):
            for tree in brute.trees_over(tuple(range(n))):
                self.assertEqual(set(brute.fitting(n, sets_of(tree))), set(brute.told(tree)))

    def test_they_are_different_and_ascend_whatever_the_form(self):
        chance = random.Random(4)
        for tree in brute.trees_over(tuple(range(5))):
            sets = sets_of(tree)
            self.assertEqual(list(sets), sorted(set(sets)))
            self.assertTrue(all(list(chosen) == sorted(set(chosen)) for chosen in sets))
            self.assertEqual(sets_of(brute.shuffled(tree, chance)), sets)

    def test_things_may_be_any_integers_from_0_on(self):
        self.assertEqual(sets_of(40), ())
        self.assertEqual(sets_of(("any", (HUGE, 50, ("row", (70, 60, 30))))),
                         ((30, 50, 60, 70, HUGE), (30, 60), (60, 70)))

    def test_the_greatest_trees(self):
        self.assertEqual(sets_of(("any", tuple(range(24)))), (tuple(range(24)),))
        self.assertEqual(sets_of(("row", tuple(range(24)))), tuple((at, at + 1) for at in range(23)))
        self.assertEqual(sets_of(nested(24)), tuple(tuple(range(many)) for many in range(2, 25)))
