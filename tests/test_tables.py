"""Points 1.1 and 1.2, and the heading unpartedrows/tables.py."""

import itertools
import unittest

import brute
from unpartedrows.errors import InvalidOrder, InvalidTable, OutOfRange
from unpartedrows.tables import (check_order, check_set, check_table, check_things, first_parted, spanned,
                                 stands_together, stretch_of)

HUGE = 10 ** 6000
NO_NUMBERS = (0, 25, -1, 26, 100, -24, HUGE, -HUGE)
GOOD_NUMBERS = tuple(range(1, 25))


class CheckThings(unittest.TestCase):
    def test_1_to_24_are_returned(self):
        for n in GOOD_NUMBERS:
            self.assertEqual(check_things(n), n)

    def test_other_numbers_are_refused(self):
        for n in NO_NUMBERS:
            with self.assertRaises(OutOfRange):
                check_things(n)


class CheckSet(unittest.TestCase):
    def test_each_set_is_returned(self):
        for n in range(1, 6):
            for chosen in brute.sets_below(n):
                self.assertIs(check_set(n, chosen), chosen)

    def test_all_other_tuples_are_refused(self):
        for n in range(1, 4):
            good = brute.sets_below(n)
            for many in range(5):
                for chosen in itertools.product(range(-1, n + 2), repeat=many):
                    if chosen not in good:
                        with self.subTest(n=n, chosen=chosen), self.assertRaises(InvalidTable):
                            check_set(n, chosen)

    def test_edges(self):
        self.assertEqual(check_set(1, ()), ())
        self.assertEqual(check_set(24, ()), ())
        self.assertEqual(check_set(24, tuple(range(24))), tuple(range(24)))
        self.assertEqual(check_set(24, (23,)), (23,))
        for n, chosen in ((4, (2, 1)), (4, (1, 1)), (4, (-1, 2)), (4, (4,)), (4, (1, 4)), (1, (1,)), (24, (24,)),
                          (24, tuple(range(25))), (4, (0, 2, 1)), (4, (HUGE,)), (4, (-HUGE,)), (4, (0, 1, 2, 3, 3)),
                          (3, (0,) * 50), (4, (3, 2, 1, 0))):
            with self.subTest(n=n), self.assertRaises(InvalidTable):
                check_set(n, chosen)

    def test_no_set_for_other_numbers_of_things(self):
        for n in NO_NUMBERS:
            for chosen in ((), (0,), (0, 1)):
                with self.assertRaises(InvalidTable):
                    check_set(n, chosen)


class CheckTable(unittest.TestCase):
    def test_tables_are_returned(self):
        for sets in ((), ((),), ((0,), (0,)), ((0, 1), (1, 2), (0, 1)), ((0, 1, 2, 3), (), (3,))):
            self.assertIs(check_table(4, sets), sets)

    def test_40_sets_are_a_table_and_41_are_none(self):
        for chosen in ((), (0, 1)):
            self.assertEqual(check_table(2, (chosen,) * 40), (chosen,) * 40)
            for many in (41, 42, 100):
                with self.assertRaises(InvalidTable):
                    check_table(2, (chosen,) * many)

    def test_each_set_is_looked_at(self):
        for bad in ((2, 1), (1, 1), (-1,), (4,), (HUGE,)):
            for at in range(5):
                sets = [(0, 1)] * 5
                sets[at] = bad
                with self.assertRaises(InvalidTable):
                    check_table(4, tuple(sets))

    def test_no_table_for_other_numbers_of_things(self):
        for n in NO_NUMBERS:
            for sets in ((), ((),), ((0,),)):
                with self.assertRaises(InvalidTable):
                    check_table(n, sets)


class CheckOrder(unittest.TestCase):
    def test_each_order_is_returned(self):
        for n in range(1, 6):
            for order in brute.orders_of(n):
                self.assertIs(check_order(n, order), order)
        self.assertEqual(check_order(24, tuple(range(24))), tuple(range(24)))

    def test_all_other_tuples_are_refused(self):
        for n in range(1, 4):
            good = brute.orders_of(n)
            for many in range(5):
                for order in itertools.product(range(-1, n + 2), repeat=many):
                    if order not in good:
                        with self.subTest(n=n, order=order), self.assertRaises(InvalidOrder):
                            check_order(n, order)

    def test_edges(self):
        for n, order in ((3, ()), (3, (0, 1)), (3, (0, 1, 2, 3)), (3, (0, 1, 1)), (3, (0, 1, 2, 2)), (3, (1, 2, 3)),
                         (3, (-1, 0, 1)), (3, (0, 1, HUGE)), (1, (1,)), (24, tuple(range(25))),
                         (24, tuple(range(23)))):
            with self.subTest(n=n), self.assertRaises(InvalidOrder):
                check_order(n, order)

    def test_no_order_for_other_numbers_of_things(self):
        self.assertRaises(InvalidOrder, check_order, 0, ())
        self.assertRaises(InvalidOrder, check_order, 25, tuple(range(25)))
        for n in NO_NUMBERS:
            for order in ((), (0,), (0, 1)):
                with self.assertRaises(InvalidOrder):
                    check_order(n, order)


class StandingTogether(unittest.TestCase):
    def test_against_the_plain_words(self):
        for n in range(1, 6):
            for order in brute.orders_of(n):
                for chosen in brute.sets_below(n):
                    self.assertIs(stands_together(order, chosen), brute.is_together(order, chosen))

    def test_the_sets_that_always_stand_together(self):
        order = tuple(range(24))[::-1]
        for chosen in ((), tuple(range(24)), *[(thing,) for thing in range(24)]):
            self.assertIs(stands_together(order, chosen), True)

    def test_an_example(self):
        self.assertIs(stands_together((2, 0, 3, 1), (0, 3)), True)
        self.assertIs(stands_together((2, 0, 3, 1), (0, 2, 3)), True)
        self.assertIs(stands_together((2, 0, 3, 1), (0, 1)), False)
        self.assertIs(stands_together((2, 0, 3, 1), (1, 2)), False)

    def test_first_parted_for_two_sets(self):
        for order in brute.orders_of(4):
            for sets in itertools.product(brute.sets_below(4), repeat=2):
                parted = [at for at in range(2) if not brute.is_together(order, sets[at])]
                self.assertEqual(first_parted(order, sets), parted[0] if parted else None)

    def test_first_parted_at_the_edges(self):
        order = (1, 0, 2)
        self.assertIsNone(first_parted(order, ()))
        self.assertIsNone(first_parted(order, ((0, 1),) * 40))
        self.assertEqual(first_parted(order, ((0, 1),) * 39 + ((1, 2),)), 39)
        self.assertEqual(first_parted(order, ((1, 2),) * 40), 0)
        self.assertEqual(first_parted(tuple(range(24)), ((), (3, 4), (0, 23), (0, 22))), 2)


class Stretches(unittest.TestCase):
    def test_against_the_plain_words(self):
        for n in range(1, 6):
            for order in brute.orders_of(n):
                for chosen in brute.sets_below(n):
                    places = [place for place in range(n) if order[place] in chosen]
                    stretch = (places[0], places[-1]) if places else None
                    within = [thing for thing in range(n)
                              if places and places[0] <= order.index(thing) <= places[-1]]
                    self.assertEqual(stretch_of(order, chosen), stretch)
                    self.assertEqual(spanned(order, chosen), tuple(within))

    def test_examples(self):
        self.assertEqual(stretch_of((2, 0, 3, 1), (1, 2)), (0, 3))
        self.assertEqual(stretch_of((2, 0, 3, 1), (0, 1)), (1, 3))
        self.assertEqual(stretch_of((2, 0, 3, 1), (3,)), (2, 2))
        self.assertIsNone(stretch_of((2, 0, 3, 1), ()))
        self.assertEqual(spanned((2, 0, 3, 1), (0, 1)), (0, 1, 3))
        self.assertEqual(spanned((2, 0, 3, 1), ()), ())

    def test_greatest(self):
        order = tuple(range(24))[::-1]
        self.assertEqual(stretch_of(order, (0, 23)), (0, 23))
        self.assertEqual(spanned(order, (0, 23)), tuple(range(24)))
        self.assertEqual(spanned(order, (4, 6)), (4, 5, 6))


class WhichErrorComesFirst(unittest.TestCase):
    BAD_ORDERS = ((), (1,), (0, 0), (0, 2), (-1, 0), tuple(range(25)), (0, 1, 1), (HUGE,))

    def test_a_bad_order_comes_first(self):
        for order in self.BAD_ORDERS:
            for chosen in ((), (0,), (1, 0), (-1,), (99,)):
                for function in (stands_together, stretch_of, spanned):
                    with self.assertRaises(InvalidOrder):
                        function(order, chosen)
                for sets in ((chosen,), (chosen,) * 41):
                    with self.assertRaises(InvalidOrder):
                        first_parted(order, sets)

    def test_a_set_must_be_one_of_as_many_things_as_the_order_has(self):
        for chosen in ((3,), (0, 1, 2, 3), (1, 0), (1, 1), (-1,), (HUGE,)):
            for function in (stands_together, stretch_of, spanned):
                with self.assertRaises(InvalidTable):
                    function((2, 0, 1), chosen)
            for sets in ((chosen,), ((0, 2), chosen), ((0, 1), (), chosen)):
                with self.assertRaises(InvalidTable):
                    first_parted((2, 1, 0), sets)
        with self.assertRaises(InvalidTable):
            first_parted((0, 1), ((0,),) * 41)
