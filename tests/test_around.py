"""Points 4.1 and 4.2, and the heading unpartedrows/around.py."""

import itertools
import math
import random
import unittest

import brute
from unpartedrows.around import opened_table, ring_count, ring_paper, ring_tree, stands_around
from unpartedrows.errors import InvalidOrder, InvalidTable
from unpartedrows.tables import check_set
from unpartedrows.telling import count, tells
from unpartedrows.trees import check_tree

HUGE = 10 ** 6000
NO_NUMBERS = (0, 25, -1, 26, 100, HUGE, -HUGE)
BAD_SETS = ((3,), (1, 0), (1, 1), (-1,), (0, 1, 2, 3), (HUGE,))
PAIRS_24 = tuple((thing, thing + 1) for thing in range(23))
TRIPLES_24 = tuple((thing, thing + 1, thing + 2) for thing in range(22))
TABLE_FUNCTIONS = (opened_table, ring_tree, ring_count, ring_paper)


def opened(n, sets):
    """Point 4.2: the sets of the opened table one by one."""
    found = []
    for chosen in sets:
        found.append(tuple(sorted(set(range(n)) - set(chosen))) if 0 in chosen else chosen)
    return tuple(found) + (tuple(range(1, n)),)


class StandsAround(unittest.TestCase):
    def test_against_the_plain_words(self):
        for n in range(1, 7):
            for order in brute.orders_of(n):
                if order[0] == 0:
                    for chosen in brute.sets_below(n):
                        self.assertIs(stands_around(order, chosen), brute.is_together_around(order, chosen))

    def test_examples(self):
        order = (0, 3, 1, 4, 2)
        for chosen in ((), (0,), (0, 1, 2, 3, 4), (0, 2), (2, 4), (0, 2, 3), (0, 2, 4), (0, 2, 3, 4), (1, 2, 3, 4)):
            self.assertIs(stands_around(order, chosen), True)
        for chosen in ((0, 1), (2, 3), (1, 2), (0, 4), (0, 1, 2), (1, 2, 3), (0, 1, 4)):
            self.assertIs(stands_around(order, chosen), False)

    def test_24_things(self):
        order = (0,) + tuple(range(23, 0, -1))
        for chosen in ((0, 23), (0, 1), (0, 1, 2, 22, 23), tuple(range(1, 24)), (4, 5), (0, *range(5, 24))):
            self.assertIs(stands_around(order, chosen), True)
        for chosen in ((0, 2), (0, 22), (4, 6), (0, 1, 2, 21, 23), (0, 5, 6)):
            self.assertIs(stands_around(order, chosen), False)

    def test_what_is_no_order_around(self):
        for order in ((1, 0), (1, 2, 0), (2, 0, 1), (), (1,), (0, 0), (0, 2), (-1, 0), (0, 1, 1), (0, HUGE),
                      tuple(range(25)), (23,) + tuple(range(23))):
            for chosen in ((), (0,), (1, 0), (-1,), (99,)):
                with self.assertRaises(InvalidOrder):
                    stands_around(order, chosen)

    def test_what_is_no_set(self):
        for chosen in BAD_SETS:
            with self.assertRaises(InvalidTable):
                stands_around((0, 2, 1), chosen)
        for chosen in ((1,), (0, 0), (0, 1), (-1,)):
            with self.assertRaises(InvalidTable):
                stands_around((0,), chosen)


class OpenedTable(unittest.TestCase):
    def test_examples(self):
        self.assertEqual(opened_table(1, ()), ((),))
        self.assertEqual(opened_table(1, ((0,), (), (0,))), ((), (), (), ()))
        self.assertEqual(opened_table(2, ((0,), (1,), (0, 1), ())), ((1,), (1,), (), (), (1,)))
        self.assertEqual(opened_table(5, ((1, 2), (0, 2), (0, 1, 2, 3, 4), (), (1, 2), (0,))),
                         ((1, 2), (1, 3, 4), (), (), (1, 2), (1, 2, 3, 4), (1, 2, 3, 4)))

    def test_small_tables(self):
        for n in range(1, 5):
            for sets in itertools.product(brute.sets_below(n), repeat=2):
                self.assertEqual(opened_table(n, sets), opened(n, sets))
        for chosen in brute.sets_below(6):
            self.assertEqual(opened_table(6, (chosen,)), opened(6, (chosen,)))

    def test_an_order_fits_around_exactly_if_it_fits_the_opened_table(self):
        for n in range(1, 6):
            for order in brute.orders_of(n):
                if order[0] == 0:
                    for chosen in brute.sets_below(n):
                        fits = brute.fits(order, opened_table(n, (chosen,)))
                        self.assertIs(fits, brute.is_together_around(order, chosen))

    def test_the_opened_table_of_40_sets_has_41(self):
        sets = PAIRS_24 + ((0, 23),) + TRIPLES_24[:16]
        self.assertEqual(opened_table(24, sets), opened(24, sets))
        self.assertEqual(len(opened_table(24, sets)), 41)
        self.assertEqual(opened_table(3, ((),) * 40), ((),) * 40 + ((1, 2),))
        for chosen in opened_table(24, sets):
            self.assertIs(check_set(24, chosen), chosen)


class Held(unittest.TestCase):
    def hold(self, n, sets):
        """Tree, number and paper are those of the orders around that fit, looked through one by one."""
        orders = brute.fitting_around(n, sets)
        tree = ring_tree(n, sets)
        paper = ring_paper(n, sets)
        self.assertEqual(ring_count(n, sets), len(orders))
        if not orders:
            self.assertIsNone(tree)
            self.assertTrue(brute.is_paper(opened(n, sets), paper))
            return
        self.assertIsNone(paper)
        self.assertIs(check_tree(n, tree), tree)
        self.assertTrue(brute.is_normal(tree))
        both_ways = orders + [order[::-1] for order in orders]
        self.assertEqual(set(brute.told(tree)), set(both_ways))


class Rings(Held):
    def test_all_tables_of_up_to_two_sets_of_few_things(self):
        for n in range(1, 5):
            for many in range(3):
                for sets in itertools.product(brute.sets_below(n), repeat=many):
                    self.hold(n, sets)

    def test_all_tables_of_pairs_of_five_things(self):
        pairs = list(itertools.combinations(range(5), 2))
        for many in range(1, 7):
            for sets in itertools.combinations(pairs, many):
                self.hold(5, sets)

    def test_some_tables_of_five_and_six_things(self):
        chance = random.Random(21)
        for n, most in ((5, 5), (6, 7)):
            every = brute.sets_below(n)
            for _ in range(250):
                self.hold(n, tuple(chance.choice(every) for _ in range(chance.randint(0, most))))

    def test_some_tables_that_an_order_around_fits(self):
        chance = random.Random(22)
        for _ in range(150):
            ring = chance.sample(range(6), 6) * 2
            sets = []
            for _ in range(chance.randint(1, 6)):
                low, many = chance.randrange(6), chance.randint(1, 5)
                sets.append(tuple(sorted(ring[low:low + many])))
            self.assertGreater(ring_count(6, tuple(sets)), 0)
            self.hold(6, tuple(sets))

    def test_one_and_two_things(self):
        self.assertEqual(ring_tree(1, ()), 0)
        self.assertEqual(ring_count(1, ()), 1)
        self.assertEqual(ring_count(1, ((0,), ()) * 20), 1)
        self.assertIsNone(ring_paper(1, ((0,),)))
        self.assertEqual(ring_tree(2, ((0, 1), (0,))), ("any", (0, 1)))
        self.assertEqual(ring_count(2, ((0, 1), (0,))), 1)
        self.assertIsNone(ring_paper(2, ()))

    def test_examples(self):
        self.assertEqual(ring_tree(4, ()), ("any", (0, ("any", (1, 2, 3)))))
        self.assertEqual(ring_count(4, ()), 6)
        self.assertEqual(ring_tree(4, ((0, 1), (0, 3))), ("any", (0, ("row", (1, 2, 3)))))
        self.assertEqual(ring_count(4, ((0, 1), (0, 3))), 2)
        self.assertEqual(ring_count(4, ((0, 1), (1, 2), (2, 3), (0, 3))), 2)
        self.assertIsNone(ring_tree(4, ((0, 1), (0, 2), (0, 3))))
        self.assertEqual(ring_count(4, ((0, 1), (0, 2), (0, 3))), 0)

    def test_sets_that_change_nothing(self):
        chance = random.Random(23)
        for _ in range(100):
            sets = tuple(chance.choice(brute.sets_below(5)) for _ in range(chance.randint(0, 4)))
            idle = ((), (0,), (3,), (0, 1, 2, 3, 4), (1, 2, 3, 4), (0, 1, 3, 4))
            # A set and the set of all other things stand together around in the same orders.
            others = tuple(tuple(sorted({0, 1, 2, 3, 4} - set(chosen))) for chosen in sets)
            for table in (sets + idle, idle + sets, sets + sets, sets[::-1], idle * 4 + sets + idle, others,
                          sets + others):
                self.assertEqual(ring_tree(5, table), ring_tree(5, sets))
                self.assertEqual(ring_count(5, table), ring_count(5, sets))
                self.assertEqual(ring_paper(5, table) is None, ring_paper(5, sets) is None)


class GreatestTables(unittest.TestCase):
    def test_tables_that_change_nothing(self):
        everything = tuple(range(24))
        for n in range(3, 25):
            for sets in ((), ((),) * 40, ((), (0,), tuple(range(n)), tuple(range(1, n))) * 10):
                self.assertEqual(ring_tree(n, sets), ("any", (0, ("any", tuple(range(1, n))))))
                self.assertEqual(ring_count(n, sets), math.factorial(n - 1))
                self.assertIsNone(ring_paper(n, sets))
        self.assertEqual(ring_count(24, (everything[:12],) * 40), math.factorial(12) * math.factorial(12))

    def test_a_ring_of_24_pairs(self):
        ring = PAIRS_24 + ((0, 23),)
        for sets in (PAIRS_24, ring, ring + TRIPLES_24[:16], ring[::-1] + TRIPLES_24[6:]):
            self.assertEqual(ring_tree(24, sets), ("any", (0, ("row", tuple(range(1, 24))))))
            self.assertEqual(ring_count(24, sets), 2)
            self.assertIsNone(ring_paper(24, sets))

    def test_papers_of_40_sets(self):
        ring = PAIRS_24 + ((0, 23),)
        for last in ((0, 2), (4, 9), (0, 12), (1, 2, 3, 22)):
            for sets in (ring + TRIPLES_24[:15] + (last,), (last,) + TRIPLES_24[7:] + ring):
                self.assertEqual(len(sets), 40)
                self.assertIsNone(ring_tree(24, sets))
                self.assertEqual(ring_count(24, sets), 0)
                self.assertTrue(brute.is_paper(opened(24, sets), ring_paper(24, sets)))

    def test_some_tables(self):
        chance = random.Random(24)
        for _ in range(40):
            order = (0, *chance.sample(range(1, 24), 23))
            ring = order * 2
            sets = []
            for _ in range(40):
                low, many = chance.randrange(24), chance.randint(1, 23)
                sets.append(tuple(sorted(ring[low:low + many])))
            tree = ring_tree(24, tuple(sets))
            self.assertTrue(brute.is_normal(tree))
            self.assertIs(tells(tree, order), True)
            self.assertIs(tells(tree, order[::-1]), True)
            self.assertEqual(2 * ring_count(24, tuple(sets)), count(tree))
            self.assertIsNone(ring_paper(24, tuple(sets)))
            sets[chance.randrange(40)] = tuple(sorted(chance.sample(range(24), chance.randint(2, 4))))
            tree = ring_tree(24, tuple(sets))
            paper = ring_paper(24, tuple(sets))
            self.assertEqual(tree is None, paper is not None)
            if tree is None:
                self.assertTrue(brute.is_paper(opened(24, sets), paper))


class WhichErrorComesFirst(unittest.TestCase):
    def test_a_table_must_be_one_of_so_many_things(self):
        for function in TABLE_FUNCTIONS:
            for chosen in BAD_SETS:
                for sets in ((chosen,), ((0, 1), (1, 2), (0, 2), chosen), (chosen, (0, 1), (1, 2), (0, 2))):
                    with self.assertRaises(InvalidTable):
                        function(3, sets)
            for sets in (((0, 1),) * 41, ((),) * 41, ((0, 1), (1, 2), (0, 2)) * 14):
                with self.assertRaises(InvalidTable):
                    function(3, sets)

    def test_no_table_for_other_numbers_of_things(self):
        for function in TABLE_FUNCTIONS:
            for n in NO_NUMBERS:
                for sets in ((), ((),), ((0,),), ((0, 1), (-1,))):
                    with self.assertRaises(InvalidTable):
                        function(n, sets)
