"""Points 5.1 and 5.2, and the heading unpartedrows/visits.py."""

import itertools
import random
import time
import unittest

import brute
from samples import ARMS, BAD_PAIRS, HUGE, LINE_24, NO_NUMBERS, PAIRS_24, RING_24, SUN
from unpartedrows.errors import InvalidMeetings
from unpartedrows.visits import avoid, explains, is_shut_ring, visits


class Held(unittest.TestCase):
    def hold(self, n, pairs, word=None):
        """What is told is so by the plain conditions; with a word, it is told under this one."""
        found = visits(n, pairs)
        self.assertIs(type(found), tuple)
        if word is not None:
            self.assertEqual(found[0], word)
        if found[0] == "hours":
            _, hours = found
            self.assertEqual([type(hours), *map(type, hours)], [tuple] * (n + 1))
            self.assertTrue(all(come <= go for come, go in hours))
            self.assertEqual((len(hours), brute.meetings_by(hours)), (n, pairs))
            self.assertIs(explains(n, pairs, hours), True)
        elif found[0] == "ring":
            _, ring = found
            self.assertTrue(brute.is_shut_ring(n, pairs, ring))
            self.assertIs(is_shut_ring(n, pairs, ring), True)
        else:
            word, persons, ways = found
            self.assertEqual((word, type(persons), type(ways)), ("three", tuple, tuple))
            self.assertEqual(list(persons), sorted(persons))
            self.assertTrue(brute.avoid(n, pairs, persons, ways))
            self.assertIs(avoid(n, pairs, persons, ways), True)
        return found[0]


class FewPersons(Held):
    def test_all_meetings_of_up_to_five_persons(self):
        for n in range(1, 6):
            explained = brute.explained(n)
            for pairs in brute.meetings_of(n):
                self.assertEqual(self.hold(n, pairs) == "hours", pairs in explained)

    def test_all_meetings_of_six_persons(self):
        told = {"hours": 0, "ring": 0, "three": 0}
        for pairs in brute.meetings_of(6):
            word = self.hold(6, pairs)
            shown = brute.has_shut_ring(6, pairs) or brute.have_avoiding_three(6, pairs)
            self.assertEqual(word == "hours", not shown)
            told[word] += 1
        # So many meetings of six persons with names are known to be explained.
        self.assertEqual(told["hours"], 17914)
        self.assertGreater(min(told.values()), 0)

    def test_a_paper_that_is_not_there_is_not_told(self):
        for pairs in brute.meetings_of(5):
            word = visits(5, pairs)[0]
            if word == "ring":
                self.assertTrue(brute.has_shut_ring(5, pairs))
            if word == "three":
                self.assertTrue(brute.have_avoiding_three(5, pairs))


class Examples(Held):
    def test_hours(self):
        self.assertEqual(self.hold(1, ()), "hours")
        self.assertEqual(self.hold(4, ((0, 1), (1, 2), (2, 3))), "hours")
        self.assertEqual(self.hold(4, ((0, 1), (0, 2), (0, 3))), "hours")
        self.assertEqual(self.hold(4, ((0, 1), (0, 2), (0, 3), (1, 2), (2, 3))), "hours")

    def test_rings(self):
        self.assertEqual(self.hold(4, ((0, 1), (0, 3), (1, 2), (2, 3))), "ring")
        self.assertEqual(self.hold(5, ((0, 1), (0, 4), (1, 2), (2, 3), (3, 4))), "ring")
        self.assertEqual(self.hold(7, ((0, 5), (0, 6), (2, 5), (2, 6), (3, 4))), "ring")

    def test_three_who_avoid_one_another(self):
        self.assertEqual(self.hold(7, ARMS), "three")
        self.assertEqual(self.hold(6, SUN), "three")
        word, persons, _ = visits(7, ARMS)
        self.assertEqual((word, persons), ("three", (2, 4, 6)))

    def test_ring_and_three_at_once(self):
        both = ARMS + ((7, 8), (7, 10), (8, 9), (9, 10))
        self.assertIn(self.hold(11, both), ("ring", "three"))


class DrawnMeetings(Held):
    def test_meetings_of_drawn_hours_are_explained(self):
        chance = random.Random(31)
        for n in list(range(1, 25)) + [24] * 30:
            for most in (3, n, 2 * n, 6 * n):
                hours = brute.drawn_hours(n, most, chance)
                pairs = brute.meetings_by(hours)
                self.assertIs(explains(n, pairs, hours), True)
                self.hold(n, pairs, "hours")

    def test_meetings_of_drawn_hours_with_changes(self):
        chance = random.Random(32)
        told = {"hours": 0, "ring": 0, "three": 0}
        for n in list(range(5, 25)) * 5:
            hours = brute.drawn_hours(n, 2 * n, chance)
            pairs = brute.meetings_by(hours)
            for _ in range(chance.randint(1, 3)):
                pairs = brute.changed(n, pairs, chance)
            word = self.hold(n, pairs)
            shown = brute.have_avoiding_three(n, pairs) or (n < 10 and brute.has_shut_ring(n, pairs))
            self.assertTrue(word != "hours" or not shown)
            told[word] += 1
        self.assertGreater(min(told.values()), 0)

    def test_drawn_pairs(self):
        chance = random.Random(33)
        for n in range(6, 25):
            for share in (0.1, 0.2, 0.5, 0.8, 0.95):
                self.hold(n, tuple(pair for pair in itertools.combinations(range(n), 2) if chance.random() < share))

    def test_trees_of_meetings_have_no_ring(self):
        chance = random.Random(34)
        for n in range(1, 25):
            for _ in range(5):
                pairs = tuple(sorted((chance.randrange(person), person) for person in range(1, n)))
                names = chance.sample(range(n), n)
                word = self.hold(n, brute.relabelled(pairs, names))
                self.assertEqual(word, "three" if brute.have_avoiding_three(n, pairs) else "hours")


class GreatestMeetings(Held):
    def quick(self, pairs, word):
        """24 persons with these meetings are told about under the word, and soon."""
        chance = random.Random(35)
        for names in (range(24), range(23, -1, -1), chance.sample(range(24), 24)):
            named = brute.relabelled(pairs, names)
            begun = time.perf_counter()
            visits(24, named)
            self.assertLess(time.perf_counter() - begun, 2)
            self.hold(24, named, word)

    def test_hours(self):
        for pairs in ((), PAIRS_24, LINE_24, PAIRS_24[1:], PAIRS_24[:-23], PAIRS_24[:23]):
            self.quick(pairs, "hours")

    def test_rings(self):
        self.quick(RING_24, "ring")
        self.assertEqual(len(visits(24, RING_24)[1]), 24)
        for left_out in (((0, 1), (22, 23)), ((0, 23), (1, 22), (2, 21))):
            self.quick(tuple(pair for pair in PAIRS_24 if pair not in left_out), "ring")
        # Two halves: everybody met all of the other half and nobody of the own one.
        self.quick(tuple((low, high) for low in range(12) for high in range(12, 24)), "ring")
        # A ring of 8, all of whom met the other 16.
        ring = ((0, 1), (0, 7)) + tuple((person, person + 1) for person in range(1, 7))
        self.quick(tuple(pair for pair in PAIRS_24 if pair[1] > 7 or pair in ring), "ring")

    def test_three_who_avoid_one_another(self):
        def arm(first, many):
            return ((0, first),) + tuple((person, person + 1) for person in range(first, first + many - 1))
        self.quick(tuple(sorted(arm(1, 8) + arm(9, 8) + arm(17, 7))), "three")
        self.quick(tuple(sorted(arm(1, 19) + arm(20, 2) + arm(22, 2))), "three")
        # 21 persons who all met, and three more, each of whom met one of them.
        self.quick(tuple(sorted(tuple(itertools.combinations(range(21), 2)) + ((0, 21), (1, 22), (2, 23)))), "three")
        # The sun, all of whom met the other 18: then the three met a person in common, but avoid one another still.
        self.quick(tuple(sorted(SUN + tuple(pair for pair in PAIRS_24 if pair[1] > 5))), "three")


class Explains(unittest.TestCase):
    def test_all_meetings_and_many_hours_of_three_persons(self):
        every = list(itertools.product(range(-1, 3), repeat=2))
        for hours in itertools.product(every, repeat=3):
            well = all(come <= go for come, go in hours)
            for pairs in brute.meetings_of(3):
                self.assertIs(explains(3, pairs, hours), well and brute.meetings_by(hours) == pairs)

    def test_coming_as_the_other_one_goes_is_a_meeting(self):
        for hours in (((0, 1), (1, 2)), ((1, 2), (0, 1)), ((5, 5), (5, 5)), ((-3, -3), (-7, -3))):
            self.assertIs(explains(2, ((0, 1),), hours), True)
            self.assertIs(explains(2, (), hours), False)
        for hours in (((0, 1), (2, 3)), ((2, 3), (0, 1)), ((-1, -1), (0, 0)), ((HUGE, HUGE), (-HUGE, HUGE - 1))):
            self.assertIs(explains(2, (), hours), True)
            self.assertIs(explains(2, ((0, 1),), hours), False)

    def test_what_are_no_hours(self):
        pairs = ((0, 1), (1, 2))
        good = ((0, 1), (1, 2), (2, 3))
        self.assertIs(explains(3, pairs, good), True)
        self.assertIs(explains(3, pairs, ((-9, -5), (-5, 0), (-1, HUGE))), True)
        for hours in ((), good[:2], good + ((9, 9),), good[1:], ((1, 0), (1, 2), (2, 3)), ((0, 1), (1, 2), (3, 2)),
                      ((0, 1), (2, 1), (2, 3)), ((0, 1, 1), (1, 2), (2, 3)), ((0, 1), (1,), (2, 3)),
                      ((0, 1), (), (2, 3)), ((0, 1), (1, 2), (2, 3, 4)), ((0, 1), (1, 2), ()), ((), (), ())):
            self.assertIs(explains(3, pairs, hours), False)
        self.assertIs(explains(1, (), ()), False)
        self.assertIs(explains(1, (), ((3, 3),)), True)
        self.assertIs(explains(1, (), ((4, 3),)), False)
        self.assertIs(explains(1, (), ((3, 3), (3, 3))), False)

    def test_24_persons(self):
        hours = tuple((person, person + 1) for person in range(24))
        self.assertIs(explains(24, LINE_24, hours), True)
        self.assertIs(explains(24, LINE_24[1:], hours), False)
        self.assertIs(explains(24, LINE_24, hours[::-1]), True)
        self.assertIs(explains(24, LINE_24, hours[:23]), False)
        self.assertIs(explains(24, PAIRS_24, ((7, 7),) * 24), True)
        self.assertIs(explains(24, PAIRS_24, ((7, 7),) * 23 + ((8, 7),)), False)


class IsShutRing(unittest.TestCase):
    def test_all_meetings_of_four_persons(self):
        rings = [ring for many in range(3, 6) for ring in itertools.product(range(4), repeat=many)]
        for pairs in brute.meetings_of(4):
            # Five of four persons are never different; a few of them are tried.
            for ring in rings[:64 + 256] + rings[320::97]:
                self.assertIs(is_shut_ring(4, pairs, ring), brute.is_shut_ring(4, pairs, ring))

    def test_all_orders_of_five_persons(self):
        for pairs in brute.meetings_of(5)[::3]:
            for ring in itertools.permutations(range(5)):
                self.assertIs(is_shut_ring(5, pairs, ring), brute.is_shut_ring(5, pairs, ring))

    def test_from_everywhere_and_both_ways(self):
        ring = tuple(range(24))
        for at in range(24):
            for turned in (ring[at:] + ring[:at], ring[at::-1] + ring[:at:-1]):
                self.assertIs(is_shut_ring(24, RING_24, turned), True)

    def test_rings_with_a_change(self):
        pairs = ((0, 1), (0, 4), (1, 2), (2, 3), (3, 4))
        self.assertIs(is_shut_ring(6, pairs, (0, 1, 2, 3, 4)), True)
        for ring in ((), (0,), (0, 1), (0, 1, 2), (0, 1, 2, 3), (1, 2, 3, 4), (0, 1, 2, 3, 4, 0), (0, 1, 2, 3, 4, 4),
                     (0, 1, 2, 3, 3), (0, 1, 2, 4, 3), (0, 1, 2, 3, 5), (0, 1, 2, 3, -1), (0, 1, 2, 3, 6),
                     (0, 1, 2, 3, 4, 5), (0, 1, 2, 3, HUGE), (-6, 1, 2, 3, 4), (0, 1, 2, 3, 4, 0, 1, 2, 3, 4)):
            self.assertIs(is_shut_ring(6, pairs, ring), False)
        for more in ((0, 2), (0, 3), (1, 3), (1, 4), (2, 4)):
            self.assertIs(is_shut_ring(6, tuple(sorted(pairs + (more,))), (0, 1, 2, 3, 4)), False)
        for less in pairs:
            fewer = tuple(pair for pair in pairs if pair != less)
            self.assertIs(is_shut_ring(6, fewer, (0, 1, 2, 3, 4)), False)

    def test_three_or_four_who_met(self):
        self.assertIs(is_shut_ring(4, ((0, 1), (0, 2), (1, 2)), (0, 1, 2)), False)
        self.assertIs(is_shut_ring(4, ((0, 1), (0, 3), (1, 2), (2, 3)), (3, 0, 1, 2)), True)
        self.assertIs(is_shut_ring(4, ((0, 1), (0, 2), (0, 3), (1, 2), (2, 3)), (3, 0, 1, 2)), False)


class Avoid(unittest.TestCase):
    def test_all_ways_among_the_arms(self):
        # In the sun each of the persons 3, 4 and 5 may be on a way of the two others only next to these.
        ways = [way for many in range(4) for way in itertools.product(range(-1, 7), repeat=many)]
        chance = random.Random(36)
        good = ((3, 0, 4), (3, 1, 5), (4, 2, 5))
        self.assertIs(avoid(6, SUN, (3, 4, 5), good), True)
        for at in range(3):
            for way in ways:
                tried = good[:at] + (way,) + good[at + 1:]
                self.assertIs(avoid(6, SUN, (3, 4, 5), tried), way == good[at])
        for _ in range(400):
            tried = tuple(chance.choice(ways) for _ in range(3))
            self.assertIs(avoid(6, SUN, (3, 4, 5), tried), brute.avoid(6, SUN, (3, 4, 5), tried))

    def test_all_ways_of_three_persons_among_meetings_of_five(self):
        chance = random.Random(37)
        for pairs in chance.sample(brute.meetings_of(5), 60):
            for persons in itertools.product(range(5), repeat=3):
                tried = tuple((one, chance.randrange(5), other) for one, other in itertools.combinations(persons, 2))
                self.assertIs(avoid(5, pairs, persons, tried), brute.avoid(5, pairs, persons, tried))

    def test_the_persons_may_stand_in_any_sequence(self):
        ways = {(2, 4): (2, 1, 0, 3, 4), (2, 6): (2, 1, 0, 5, 6), (4, 6): (4, 3, 0, 5, 6)}
        for persons in itertools.permutations((2, 4, 6)):
            wanted = tuple(ways[pair] if pair in ways else ways[pair[::-1]][::-1]
                           for pair in itertools.combinations(persons, 2))
            self.assertIs(avoid(7, ARMS, persons, wanted), True)
            for at in range(3):
                turned = wanted[:at] + (wanted[at][::-1],) + wanted[at + 1:]
                self.assertIs(avoid(7, ARMS, persons, turned), False)
            self.assertIs(avoid(7, ARMS, persons, wanted[::-1]), False)

    def test_a_way_may_pass_a_person_twice(self):
        ways = ((2, 1, 2, 1, 0, 3, 0, 3, 4), (2, 1, 0, 5, 6), (4, 3, 0, 5, 6, 5, 6))
        self.assertIs(avoid(7, ARMS, (2, 4, 6), ways), True)

    def test_ways_with_a_change(self):
        good = ((2, 1, 0, 3, 4), (2, 1, 0, 5, 6), (4, 3, 0, 5, 6))
        self.assertIs(avoid(7, ARMS, (2, 4, 6), good), True)
        bad = (
            (), (2,), (4,), (2, 4), (2, 1, 3, 4), (2, 1, 0, 4), (2, 2, 1, 0, 3, 4), (2, 1, 0, 3, 4, 4),
            (1, 0, 3, 4), (2, 1, 0, 3), (4, 3, 0, 1, 2), (2, 1, 0, 5, 0, 3, 4), (2, 1, 0, 5, 6, 5, 0, 3, 4),
            (2, 1, 0, 3, 4, 7), (2, -6, 0, 3, 4), (2, 1, 7, 3, 4), (2, 1, -7, 3, 4), (2, 1, HUGE, 3, 4), (2, 6, 4),
        )
        for way in bad:
            self.assertIs(avoid(7, ARMS, (2, 4, 6), (way,) + good[1:]), False)
        for ways in ((), good[:1], good[:2], good + good[:1], (good[1], good[0], good[2]), good + ((),)):
            self.assertIs(avoid(7, ARMS, (2, 4, 6), ways), False)

    def test_each_way_is_looked_at(self):
        good = ((2, 1, 0, 3, 4), (2, 1, 0, 5, 6), (4, 3, 0, 5, 6))
        for at in range(3):
            for cut in range(5):
                way = good[at][:cut] + good[at][cut + 1:]
                self.assertIs(avoid(7, ARMS, (2, 4, 6), good[:at] + (way,) + good[at + 1:]), False)

    def test_persons_with_a_change(self):
        good = ((2, 1, 0, 3, 4), (2, 1, 0, 5, 6), (4, 3, 0, 5, 6))
        for persons in ((), (2,), (2, 4), (2, 4, 6, 6), (2, 4, 6, 0), (2, 4, 4), (2, 2, 6), (2, 4, 5), (1, 4, 6),
                        (4, 2, 6), (6, 4, 2), (2, 4, -1), (2, 4, 7), (2, 4, HUGE), (-5, -3, -1)):
            self.assertIs(avoid(7, ARMS, persons, good), False)

    def test_two_who_met_avoid_nobody(self):
        # Each way would pass the third person, or somebody whom this one met.
        self.assertIs(avoid(3, ((0, 1), (0, 2), (1, 2)), (0, 1, 2), ((0, 1), (0, 2), (1, 2))), False)
        self.assertIs(avoid(4, ((0, 1), (2, 3)), (0, 1, 2), ((0, 1), (0, 2), (1, 2))), False)
        self.assertIs(avoid(3, (), (0, 0, 0), ((0,), (0,), (0,))), False)
        self.assertIs(avoid(3, (), (0, 1, 2), ((0,), (0,), (1,))), False)

    def test_24_persons(self):
        line = tuple((person, person + 1) for person in range(20)) + ((10, 21), (21, 22), (22, 23))
        ways = (tuple(range(21)), tuple(range(11)) + (21, 22, 23), tuple(range(20, 9, -1)) + (21, 22, 23))
        pairs = tuple(sorted(line))
        self.assertIs(avoid(24, pairs, (0, 20, 23), ways), True)
        self.assertIs(avoid(24, tuple(sorted(line + ((0, 23),))), (0, 20, 23), ways), False)


class WhichErrorComesFirst(unittest.TestCase):
    def test_meetings_that_are_none(self):
        for pairs in BAD_PAIRS:
            for hours in ((), ((0, 1),) * 4, ((1, 0),)):
                self.assertRaises(InvalidMeetings, explains, 4, pairs, hours)
            for ring in ((), (0, 1, 2, 3), (HUGE,)):
                self.assertRaises(InvalidMeetings, is_shut_ring, 4, pairs, ring)
            for persons in ((), (0, 1, 2), (-1,)):
                self.assertRaises(InvalidMeetings, avoid, 4, pairs, persons, ())
            self.assertRaises(InvalidMeetings, visits, 4, pairs)

    def test_no_meetings_of_other_numbers_of_persons(self):
        for n in NO_NUMBERS:
            for pairs in ((), ((0, 1),), ((1, 0),)):
                self.assertRaises(InvalidMeetings, explains, n, pairs, ())
                self.assertRaises(InvalidMeetings, visits, n, pairs)
                self.assertRaises(InvalidMeetings, is_shut_ring, n, pairs, (0, 1))
                self.assertRaises(InvalidMeetings, avoid, n, pairs, (0, 1, 2), ((), (), ()))
