"""Point 6.6, and the heading unpartedrows/nested.py."""

import itertools
import random
import time
import unittest

import brute
from samples import BAD_SETS, HUGE, NO_NUMBERS
from unpartedrows.errors import InvalidTable
from unpartedrows.nested import first_crossing, holders
from unpartedrows.reducing import tree_of


class Held(unittest.TestCase):
    def hold(self, n, sets):
        """What is told is right by the words of point 6.6; it is told whether some cross."""
        crossing = brute.first_crossing(sets)
        found = first_crossing(n, sets)
        self.assertEqual(found, crossing)
        self.assertIn(type(found), (tuple, type(None)))
        if crossing is not None:
            self.assertIsNone(holders(n, sets))
            return True
        found = holders(n, sets)
        self.assertEqual(found, brute.holders(sets))
        self.assertIs(type(found), tuple)
        return False


class FewThings(Held):
    def test_all_tables_of_up_to_four_sets_of_three_things(self):
        for many in range(5):
            for sets in itertools.product(brute.sets_below(3), repeat=many):
                self.hold(3, sets)

    def test_all_tables_of_up_to_three_sets_of_four_things(self):
        for many in range(4):
            for sets in itertools.product(brute.sets_below(4), repeat=many):
                self.hold(4, sets)

    def test_drawn_tables_that_do_not_cross(self):
        chance = random.Random(121)
        crossed = 0
        for _ in range(300):
            n = chance.randint(4, 24)
            nest = brute.drawn_nest(tuple(chance.sample(range(n), n)), chance)
            crossed += self.hold(n, tuple(chance.choice(nest) for _ in range(chance.randint(0, 40))))
            crossed += self.hold(n, tuple(chance.sample(nest, min(len(nest), 40))))
        self.assertEqual(crossed, 0)

    def test_drawn_tables_with_one_more_set(self):
        chance = random.Random(122)
        crossed = []
        for _ in range(200):
            n = chance.randint(4, 24)
            nest = brute.drawn_nest(tuple(chance.sample(range(n), n)), chance)
            sets = chance.sample(nest, min(len(nest), 39))
            sets.insert(chance.randint(0, len(sets)), brute.drawn_sets(n, 1, chance)[0])
            crossed.append(self.hold(n, tuple(sets)))
        self.assertIn(True, crossed)
        self.assertIn(False, crossed)


class Edges(Held):
    def test_no_sets_and_empty_sets(self):
        for n in (1, 2, 24):
            self.assertIsNone(first_crossing(n, ()))
            self.assertEqual(holders(n, ()), ())
            for many in (1, 2, 40):
                self.assertIsNone(first_crossing(n, ((),) * many))
                self.assertEqual(holders(n, ((),) * many), (None,) * many)
            self.assertEqual(holders(n, ((), tuple(range(n)), ())), (None, None, None))

    def test_equal_sets(self):
        for chosen in ((0,), (1, 2), (0, 1, 2, 3)):
            self.assertEqual(holders(4, (chosen,)), (None,))
            self.assertEqual(holders(4, (chosen, chosen)), (None, 0))
            self.assertEqual(holders(4, (chosen, (), chosen, chosen)), (None, None, 0, 2))
            self.assertEqual(holders(4, (chosen,) * 40), (None, *range(39)))
        self.assertEqual(holders(4, ((0, 1), (0, 1, 2), (0, 1), (0, 1, 2))), (3, None, 0, 1))
        self.assertEqual(holders(4, ((0,), (0,), (0, 1), (0, 1))), (3, 0, None, 2))

    def test_sets_within_one_another_several_deep(self):
        growing = tuple(tuple(range(many)) for many in range(1, 25))
        self.assertEqual(holders(24, growing), (*range(1, 24), None))
        self.assertEqual(holders(24, growing[::-1]), (None, *range(23)))
        self.assertEqual(holders(5, ((0, 1, 2, 3, 4), (0,), (0, 1, 2), (3, 4), (1,))), (None, 2, 0, 0, 2))
        self.assertEqual(holders(6, ((2,), (4, 5), (0, 1, 2, 3), (1, 2), (4,))), (3, None, None, 2, 1))

    def test_sets_that_share_a_thing(self):
        self.assertEqual(first_crossing(3, ((0, 1), (1, 2))), (0, 1))
        self.assertIsNone(holders(3, ((0, 1), (1, 2))))
        self.assertIsNone(first_crossing(3, ((0, 1), (1,), (0, 1, 2))))
        self.assertIsNone(first_crossing(2, ((0, 1), (0,), (1,), (0, 1))))

    def test_sets_without_a_common_thing(self):
        self.assertIsNone(first_crossing(6, ((0, 1), (2, 3), (4,), (5,))))
        self.assertEqual(holders(6, ((0, 1), (2, 3), (4,), (5,))), (None,) * 4)
        self.assertEqual(holders(24, tuple((thing,) for thing in range(24))), (None,) * 24)

    def test_the_first_pair_that_crosses(self):
        self.assertEqual(first_crossing(4, ((0, 1), (2, 3), (1, 2), (0, 3))), (0, 2))
        self.assertEqual(first_crossing(5, ((4,), (0, 1), (2, 3), (3,), (1, 2), (0, 2))), (1, 4))
        self.assertEqual(first_crossing(4, ((0, 1), (0, 1), (1, 2), (1, 2))), (0, 2))
        self.assertEqual(first_crossing(24, ((),) * 38 + ((0, 1), (1, 2))), (38, 39))
        self.assertEqual(first_crossing(24, ((0, 1),) + ((),) * 38 + ((1, 2),)), (0, 39))

    def test_an_order_fits_each_table_in_which_no_two_sets_cross(self):
        chance = random.Random(123)
        for _ in range(60):
            n = chance.randint(1, 24)
            nest = brute.drawn_nest(tuple(chance.sample(range(n), n)), chance)
            self.assertIsNotNone(tree_of(n, tuple(chance.choice(nest) for _ in range(40))))

    def test_a_holder_holds_the_sets_that_its_set_holds(self):
        chance = random.Random(124)
        for _ in range(60):
            nest = brute.drawn_nest(tuple(chance.sample(range(12), 12)), chance)
            sets = tuple(chance.choice(nest) for _ in range(40))
            found = holders(12, sets)
            for index, holder in enumerate(found):
                if holder is not None:
                    self.assertLessEqual(set(sets[index]), set(sets[holder]))
                    # Going from holder to holder ends.
                    for _ in range(40):
                        holder = None if holder is None else found[holder]
                    self.assertIsNone(holder)


class HowLong(unittest.TestCase):
    def test_40_sets_of_24_things(self):
        everything = tuple(range(24))
        growing = tuple(everything[:many] for many in range(24, 0, -1))
        for sets in (growing + growing[:16], (everything,) * 40, (everything[:23],) * 39 + (everything[1:],)):
            begun = time.perf_counter()
            crossing = first_crossing(24, sets)
            found = holders(24, sets)
            self.assertLess(time.perf_counter() - begun, 2)
            self.assertEqual(crossing is None, found is not None)


class Refused(unittest.TestCase):
    def test_what_is_no_table(self):
        for function in (first_crossing, holders):
            for chosen in BAD_SETS:
                for sets in ((chosen,), ((0, 1), (1, 2), chosen), (chosen, (), ())):
                    self.assertRaises(InvalidTable, function, 3, sets)
            self.assertRaises(InvalidTable, function, 3, ((),) * 41)
            self.assertRaises(InvalidTable, function, 3, ((0, 1),) * 40 + ((1, 2),))

    def test_no_table_for_other_numbers_of_things(self):
        for n in NO_NUMBERS:
            for sets in ((), ((),), ((0,),), ((0, 1), (1, 2)), ((HUGE,),)):
                self.assertRaises(InvalidTable, first_crossing, n, sets)
                self.assertRaises(InvalidTable, holders, n, sets)
