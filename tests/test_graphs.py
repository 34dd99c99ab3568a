"""Point 5.1, and the heading unpartedrows/graphs.py."""

import itertools
import unittest

import brute
from samples import HUGE, NO_NUMBERS, PAIRS_24, RING_24
from unpartedrows.errors import InvalidMeetings
from unpartedrows.graphs import check_meetings


class Meetings(unittest.TestCase):
    def test_all_meetings_of_few_persons(self):
        for n in range(1, 6):
            for pairs in brute.meetings_of(n):
                self.assertIs(check_meetings(n, pairs), pairs)

    def test_none_but_these(self):
        every = list(itertools.product(range(-1, 4), repeat=2)) + [(), (0,), (0, 1, 2)]
        for n in range(1, 4):
            good = set(brute.meetings_of(n))
            for many in range(4):
                for pairs in itertools.product(every, repeat=many):
                    if pairs in good:
                        self.assertIs(check_meetings(n, pairs), pairs)
                    else:
                        with self.assertRaises(InvalidMeetings):
                            check_meetings(n, pairs)

    def test_no_pairs(self):
        for n in range(1, 25):
            self.assertEqual(check_meetings(n, ()), ())

    def test_the_greatest_meetings(self):
        for pairs in (PAIRS_24, PAIRS_24[1:], PAIRS_24[:-1], RING_24, ((0, 23),), ((22, 23),)):
            self.assertIs(check_meetings(24, pairs), pairs)

    def test_other_numbers_of_persons(self):
        for n in NO_NUMBERS:
            for pairs in ((), ((0, 1),), ((1, 0),), ((0,),)):
                with self.assertRaises(InvalidMeetings):
                    check_meetings(n, pairs)

    def test_pairs_that_fall_or_stand_twice(self):
        for pairs in (((0, 2), (0, 1)), ((1, 2), (0, 1)), ((0, 1), (0, 1)), ((0, 1), (0, 2), (0, 1)),
                      ((0, 1), (1, 2), (1, 2)), ((0, 1), (0, 3), (0, 2), (1, 2))):
            with self.assertRaises(InvalidMeetings):
                check_meetings(4, pairs)
        for pairs in (PAIRS_24[::-1], PAIRS_24 + ((22, 23),), PAIRS_24 + ((0, 1),), PAIRS_24[1:] + PAIRS_24[:1]):
            with self.assertRaises(InvalidMeetings):
                check_meetings(24, pairs)

    def test_pairs_that_are_none(self):
        for pair in ((1, 0), (0, 0), (3, 3), (-1, 0), (-1, 2), (0, 4), (3, 4), (4, 5), (0, HUGE), (-HUGE, 0),
                     (), (0,), (2,), (0, 1, 2), (0, 1, 1), (1, 2, 3, 4)):
            for pairs in ((pair,), ((0, 1), pair), (pair, (2, 3)), ((0, 1), pair, (2, 3))):
                with self.assertRaises(InvalidMeetings):
                    check_meetings(4, pairs)

    def test_a_person_must_be_one_of_so_many(self):
        for n in range(2, 25):
            last = ((n - 2, n - 1),)
            self.assertIs(check_meetings(n, last), last)
            with self.assertRaises(InvalidMeetings):
                check_meetings(n - 1, last)
        with self.assertRaises(InvalidMeetings):
            check_meetings(1, ((0, 0),))
