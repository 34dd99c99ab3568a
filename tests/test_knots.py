"""Point 6.5, and the heading unpartedrows/knots.py."""

import itertools
import random
import time
import unittest

import brute
from samples import BAD_SETS, HUGE, NO_NUMBERS
from unpartedrows.choosing import greatest_choice
from unpartedrows.errors import InvalidTable
from unpartedrows.knots import is_knot, knot_of
from unpartedrows.papers import is_paper, paper_for
from unpartedrows.reducing import tree_of

TRIANGLE = ((0, 1), (0, 2), (1, 2))
# Each pair of neighbors on a ring of 24 things: all sets and all things make one knot.
RING = tuple(tuple(sorted((thing, (thing + 1) % 24))) for thing in range(24))
GROWING = tuple(tuple(range(many)) for many in range(1, 25))


def named_anew(sets, knot):
    """How many things a knot has, and its sets with its things, which have the numbers from 0 on."""
    things, indexes = knot
    return len(things), tuple(tuple(at for at, thing in enumerate(things) if thing in sets[index]) for index in indexes)


class Held(unittest.TestCase):
    def hold(self, n, sets):
        """What is told is a knot by the words of point 6.5, or None if some order fits; it is told whether a knot."""
        knot = knot_of(n, sets)
        if brute.some_fits(tuple(range(n)), sets):
            self.assertIsNone(knot)
            return False
        self.assertEqual([type(knot), *map(type, knot)], [tuple, tuple, tuple])
        things, indexes = knot
        self.assertEqual(list(things), sorted(set(things)))
        self.assertTrue(brute.is_knot(sets, things, indexes))
        self.assertIs(is_knot(n, sets, things, indexes), True)
        return True


class FewThings(Held):
    def test_all_tables_of_three_things(self):
        for many in range(5):
            for sets in itertools.product(brute.sets_below(3), repeat=many):
                self.hold(3, sets)

    def test_all_tables_of_different_sets_of_four_things(self):
        kept = [chosen for chosen in brute.sets_below(4) if 1 < len(chosen) < 4]
        for many in range(6):
            for sets in itertools.combinations(kept, many):
                self.hold(4, sets)

    def test_drawn_tables_of_up_to_six_things(self):
        chance = random.Random(131)
        found = {True: 0, False: 0}
        for n, most, times in ((5, 8, 120), (6, 6, 60)):
            for _ in range(times):
                found[self.hold(n, brute.drawn_sets(n, chance.randint(1, most), chance))] += 1
        pairs = list(itertools.combinations(range(6), 2))
        for _ in range(40):
            found[self.hold(6, tuple(chance.sample(pairs, 5)))] += 1
        self.assertGreater(found[True], 50)
        self.assertGreater(found[False], 30)

    def test_tables_that_nearly_fit(self):
        chance = random.Random(132)
        for _ in range(60):
            sets = brute.drawn_stretches(6, 6, chance) + brute.drawn_sets(6, 1, chance)
            self.hold(6, tuple(chance.sample(sets, 7)))


class IsKnot(unittest.TestCase):
    def hold(self, n, sets):
        """Each set of things with each choice of the table."""
        choices = [choice for many in range(len(sets) + 1) for choice in itertools.combinations(range(len(sets)), many)]
        for things in brute.sets_below(n):
            for choice in choices:
                self.assertIs(is_knot(n, sets, things, choice), brute.is_knot(sets, things, choice))

    def test_all_things_and_indexes_of_small_tables(self):
        chance = random.Random(133)
        self.hold(3, TRIANGLE)
        self.hold(3, TRIANGLE * 2)
        self.hold(4, ((0, 1), (0, 2), (0, 3), (1, 2, 3)))
        self.hold(4, ((0, 1), (1, 2), (2, 3), (0, 3), (0, 2)))
        self.hold(5, ((0, 1), (1, 2), (2, 3), (3, 4), (0, 4)))
        self.hold(5, ((0, 1, 2), (1, 2, 3), (2, 3, 4), (0, 3, 4), (0, 1, 4)))
        for _ in range(12):
            self.hold(4, brute.drawn_sets(4, 4, chance))
            self.hold(5, brute.drawn_sets(5, 4, chance))

    def test_fewer_things_of_each_set_may_be_a_knot(self):
        sets = ((0, 1, 5), (0, 2, 4), (1, 2, 3))
        self.assertIs(is_knot(6, sets, (0, 1, 2), (0, 1, 2)), True)
        self.assertIs(is_knot(6, sets, (0, 1, 2, 3), (0, 1, 2)), False)
        self.assertIs(is_knot(6, sets, (3, 4, 5), (0, 1, 2)), False)

    def test_a_thing_put_in_or_left_out(self):
        sets = RING[:4] + ((0, 4),)
        self.assertIs(is_knot(7, sets, (0, 1, 2, 3, 4), (0, 1, 2, 3, 4)), True)
        for things in ((0, 1, 2, 3), (1, 2, 3, 4), (0, 1, 3, 4), (0, 1, 2, 3, 4, 5), (0, 1, 2, 3, 4, 6), (), (0,),
                       (0, 1, 2, 3, 5), (0, 1, 2, 3, 4, 5, 6)):
            self.assertIs(is_knot(7, sets, things, (0, 1, 2, 3, 4)), False)

    def test_an_index_put_in_or_left_out(self):
        sets = ((0,), (0, 1), (0, 2), (), (1, 2), (0, 1), (0, 1, 2))
        for indexes in ((1, 2, 4), (2, 4, 5)):
            self.assertIs(is_knot(3, sets, (0, 1, 2), indexes), True)
        for indexes in ((), (1,), (1, 2), (2, 4), (1, 4), (0, 1, 2, 4), (1, 2, 3, 4), (1, 2, 4, 5), (1, 2, 4, 6),
                        (0, 2, 4), (1, 2, 6), tuple(range(7))):
            self.assertIs(is_knot(3, sets, (0, 1, 2), indexes), False)

    def test_indexes_that_are_none_or_do_not_ascend(self):
        self.assertIs(is_knot(3, TRIANGLE, (0, 1, 2), (0, 1, 2)), True)
        for indexes in ((2, 1, 0), (0, 2, 1), (1, 0, 2), (0, 0, 1, 2), (0, 1, 1, 2), (0, 1, 2, 2), (0, 1, 2, 0),
                        (-1, 0, 1), (-1, 0, 1, 2), (-3, -2, -1), (0, 1, -1), (0, 1, 3), (0, 1, 2, 3), (0, 1, HUGE),
                        (-HUGE, 0, 1, 2), (1, 2, 3), (0, 1, 2, HUGE)):
            self.assertIs(is_knot(3, TRIANGLE, (0, 1, 2), indexes), False)

    def test_the_empty_tuple_for_either(self):
        for sets in ((), TRIANGLE):
            self.assertIs(is_knot(3, sets, (), ()), False)
            self.assertIs(is_knot(3, sets, (0, 1, 2), ()), False)
        self.assertIs(is_knot(3, TRIANGLE, (), (0, 1, 2)), False)

    def test_fewer_than_three_things(self):
        for n in (1, 2):
            sets = tuple(brute.sets_below(n))
            for things in sets:
                for many in range(len(sets) + 1):
                    for indexes in itertools.combinations(range(len(sets)), many):
                        self.assertIs(is_knot(n, sets, things, indexes), False)
            self.assertIsNone(knot_of(n, sets * 5))


class GreatTables(unittest.TestCase):
    def hold(self, sets):
        """There is a knot; with its things named anew it is a table that no order fits and that has a paper."""
        knot = knot_of(24, sets)
        self.assertIs(is_knot(24, sets, *knot), True)
        many, left = named_anew(sets, knot)
        self.assertIsNone(tree_of(many, left))
        self.assertIs(is_paper(many, left, paper_for(many, left)), True)
        for at in range(len(left)):
            self.assertIsNotNone(tree_of(many, left[:at] + left[at + 1:]))
        for thing in range(many):
            _, fewer = named_anew(left, (tuple(each for each in range(many) if each != thing), range(len(left))))
            self.assertIsNotNone(tree_of(many - 1, fewer))
        return knot

    def test_examples(self):
        everything = tuple(range(24))
        self.assertEqual(self.hold(RING), (everything, everything))
        self.assertEqual(self.hold(((),) * 16 + RING), (everything, tuple(range(16, 40))))
        self.assertEqual(self.hold(RING + GROWING[:16]), (everything, everything))
        self.assertEqual(len(self.hold(GROWING + ((0, 23), (1, 23)))[1]), 3)

    def test_drawn_tables(self):
        chance = random.Random(134)
        for _ in range(25):
            self.hold(brute.drawn_sets(24, 40, chance))
            sets = brute.drawn_stretches(24, 39, chance) + (tuple(sorted(chance.sample(range(24), 4))),)
            sets = tuple(chance.sample(sets, 40))
            if tree_of(24, sets) is None:
                self.hold(sets)
            else:
                self.assertIsNone(knot_of(24, sets))

    def test_tables_that_some_order_fits(self):
        chance = random.Random(135)
        for n in range(1, 25):
            self.assertIsNone(knot_of(n, ()))
            self.assertIsNone(knot_of(n, ((), tuple(range(n))) * 20))
            self.assertIsNone(knot_of(n, brute.drawn_stretches(n, 40, chance)))
        self.assertIsNone(knot_of(24, RING[:23]))

    def test_how_long_each_takes(self):
        chance = random.Random(136)
        tables = [RING, RING + GROWING[:16], GROWING + RING[:16], brute.drawn_sets(24, 40, chance),
                  GROWING[:23] + ((0, 23),) * 17, ((0, 23),) + GROWING + RING[8:23], RING + RING[:16]]
        tables += [brute.drawn_stretches(24, 39, chance) + (tuple(sorted(chance.sample(range(24), 3))),)
                   for _ in range(5)]
        for sets in tables:
            self.assertLessEqual(len(sets), 40)
            begun = time.perf_counter()
            knot = knot_of(24, sets)
            if knot is not None:
                self.assertIs(is_knot(24, sets, *knot), True)
            self.assertLess(time.perf_counter() - begun, 2)


class Together(unittest.TestCase):
    """Points 3.1, 3.2 and 6.4 with 6.5."""

    def test_there_is_a_knot_exactly_if_there_is_a_paper(self):
        chance = random.Random(137)
        for n in (4, 8, 24):
            for _ in range(60):
                sets = brute.drawn_sets(n, 3, chance)
                knot = knot_of(n, sets)
                self.assertEqual(knot is None, paper_for(n, sets) is None)
                if knot is not None:
                    many, left = named_anew(sets, knot)
                    self.assertIsNone(tree_of(many, left))
                    self.assertTrue(brute.is_paper(left, paper_for(many, left)))

    def test_all_sets_of_a_knot_but_one_can_be_chosen(self):
        chance = random.Random(138)
        for _ in range(40):
            sets = brute.drawn_sets(8, 8, chance)
            knot = knot_of(8, sets)
            if knot is not None:
                many, left = named_anew(sets, knot)
                # Of the ways to leave out one set the last set is left out by the first one.
                self.assertEqual(greatest_choice(many, left), tuple(range(len(left) - 1)))


class Refused(unittest.TestCase):
    def test_what_is_no_table(self):
        for chosen in BAD_SETS:
            for sets in ((chosen,), TRIANGLE + (chosen,), (chosen,) + TRIANGLE):
                self.assertRaises(InvalidTable, knot_of, 3, sets)
                for things in ((0, 1, 2), (), (3,)):
                    self.assertRaises(InvalidTable, is_knot, 3, sets, things, (0, 1, 2))
        self.assertRaises(InvalidTable, knot_of, 3, ((),) * 38 + TRIANGLE)
        self.assertRaises(InvalidTable, is_knot, 3, ((),) * 38 + TRIANGLE, (0, 1, 2), (38, 39, 40))

    def test_things_that_are_no_set(self):
        for things in BAD_SETS + ((2, 1, 0), (0, 1, 1, 2), (-HUGE, 0, 1)):
            for indexes in ((0, 1, 2), (), (2, 1, 0), (-1,), (0, 1, HUGE)):
                self.assertRaises(InvalidTable, is_knot, 3, TRIANGLE, things, indexes)

    def test_no_table_for_other_numbers_of_things(self):
        for n in NO_NUMBERS:
            for sets in ((), ((),), TRIANGLE, ((HUGE,),)):
                self.assertRaises(InvalidTable, knot_of, n, sets)
                for things in ((), (0, 1, 2), (-1,)):
                    self.assertRaises(InvalidTable, is_knot, n, sets, things, ())
