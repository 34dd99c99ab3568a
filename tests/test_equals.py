"""Point 5.3, and the heading unpartedrows/equals.py."""

import itertools
import random
import time
import unittest

import brute
from samples import BAD_PAIRS, HUGE, LINE_24, NO_NUMBERS, PAIRS_24, RING_24, SUN
from unpartedrows.equals import equal_visits, is_claw
from unpartedrows.errors import InvalidMeetings
from unpartedrows.visits import avoid, explains, is_shut_ring, visits

STAR_24 = tuple((0, person) for person in range(1, 24))


class Held(unittest.TestCase):
    def hold(self, n, pairs, word=None):
        """What is told is so by the plain conditions; with a word, it is told under this one."""
        found = equal_visits(n, pairs)
        self.assertIs(type(found), tuple)
        if word is not None:
            self.assertEqual(found[0], word)
        if found[0] == "equal":
            _, length, comes = found
            self.assertEqual((type(length), type(comes), len(comes)), (int, tuple, n))
            self.assertGreaterEqual(length, 1)
            hours = tuple((come, come + length) for come in comes)
            self.assertEqual(brute.meetings_by(hours), pairs)
            self.assertIs(explains(n, pairs, hours), True)
        elif found[0] == "claw":
            _, person, three = found
            self.assertEqual((type(person), list(three)), (int, sorted(three)))
            self.assertTrue(brute.is_claw(n, pairs, person, three))
            self.assertIs(is_claw(n, pairs, person, three), True)
            self.assertEqual(visits(n, pairs)[0], "hours")
        elif found[0] == "ring":
            self.assertTrue(brute.is_shut_ring(n, pairs, found[1]))
            self.assertIs(is_shut_ring(n, pairs, found[1]), True)
        else:
            word, persons, ways = found
            self.assertEqual((word, list(persons)), ("three", sorted(persons)))
            self.assertTrue(brute.avoid(n, pairs, persons, ways))
            self.assertIs(avoid(n, pairs, persons, ways), True)
        return found[0]


class FewPersons(Held):
    def test_all_meetings_of_up_to_five_persons(self):
        for n in range(1, 6):
            explained = brute.explained(n)
            equally = brute.equally_explained(n)
            for pairs in brute.meetings_of(n):
                word = self.hold(n, pairs)
                self.assertEqual(word == "equal", pairs in equally)
                self.assertEqual(word == "claw", pairs in explained - equally)
                self.assertEqual(word == "claw", pairs in explained and brute.has_claw(n, pairs))

    def test_all_meetings_of_six_persons(self):
        told = {"equal": 0, "claw": 0, "ring": 0, "three": 0}
        for pairs in brute.meetings_of(6):
            word = self.hold(6, pairs)
            shown = brute.has_shut_ring(6, pairs) or brute.have_avoiding_three(6, pairs)
            self.assertEqual(word in ("ring", "three"), shown)
            if not shown:
                self.assertEqual(word == "claw", brute.has_claw(6, pairs))
            told[word] += 1
        self.assertGreater(min(told.values()), 0)


class Examples(Held):
    def test_equal_hours(self):
        self.hold(1, (), "equal")
        self.hold(3, ((0, 1), (1, 2)), "equal")
        self.hold(6, ((1, 4), (2, 3), (2, 5)), "equal")

    def test_claws(self):
        self.assertEqual(equal_visits(4, ((0, 1), (0, 2), (0, 3))), ("claw", 0, (1, 2, 3)))
        self.assertEqual(equal_visits(5, ((0, 3), (1, 3), (1, 4), (2, 3), (3, 4))), ("claw", 3, (0, 1, 2)))
        self.hold(5, ((0, 3), (1, 3), (2, 3), (3, 4)), "claw")

    def test_what_visits_tells_instead(self):
        self.hold(4, ((0, 1), (0, 3), (1, 2), (2, 3)), "ring")
        self.hold(6, SUN, "three")
        # There are claws here as well, but hours there are none.
        self.hold(7, ((0, 1), (0, 3), (0, 5), (1, 2), (3, 4), (5, 6)), "three")
        self.hold(6, ((0, 1), (0, 3), (0, 4), (0, 5), (1, 2), (2, 3)), "ring")


class DrawnMeetings(Held):
    def test_meetings_of_drawn_equal_hours_are_explained(self):
        chance = random.Random(41)
        for n in list(range(1, 25)) + [24] * 20:
            for most in (n, 3 * n, 20 * n, 60 * n):
                comes = [chance.randint(-most, most) for _ in range(n)]
                length = chance.randint(1, 12)
                self.hold(n, brute.meetings_by([(come, come + length) for come in comes]), "equal")

    def test_meetings_of_drawn_equal_hours_with_changes(self):
        chance = random.Random(42)
        told = {"equal": 0, "claw": 0, "ring": 0, "three": 0}
        for n in list(range(5, 25)) * 8:
            length = 2 * n
            comes = [chance.randint(0, 4 * n) for _ in range(n)]
            pairs = brute.meetings_by([(come, come + length) for come in comes])
            for _ in range(chance.randint(1, 2)):
                pairs = brute.changed(n, pairs, chance)
            word = self.hold(n, pairs)
            if word == "equal":
                self.assertFalse(brute.has_claw(n, pairs))
            told[word] += 1
        self.assertGreater(min(told["equal"], told["claw"], told["ring"]), 0)

    def test_meetings_of_drawn_hours(self):
        chance = random.Random(43)
        for n in list(range(1, 25)) * 4:
            pairs = brute.meetings_by(brute.drawn_hours(n, 3 * n, chance))
            self.hold(n, pairs, "claw" if brute.has_claw(n, pairs) else "equal")


class GreatestMeetings(Held):
    def quick(self, pairs, word):
        """24 persons with these meetings are told about under the word, and soon."""
        chance = random.Random(44)
        for names in (range(24), range(23, -1, -1), chance.sample(range(24), 24)):
            named = brute.relabelled(pairs, names)
            begun = time.perf_counter()
            equal_visits(24, named)
            self.assertLess(time.perf_counter() - begun, 2)
            self.hold(24, named, word)

    def test_equal_hours(self):
        for pairs in ((), PAIRS_24, LINE_24, PAIRS_24[1:]):
            self.quick(pairs, "equal")
        for reach in (2, 5, 11, 17, 22):
            self.quick(tuple(pair for pair in PAIRS_24 if pair[1] - pair[0] <= reach), "equal")

    def test_claws(self):
        self.quick(STAR_24, "claw")
        # 21 persons who all met, and three others, whom only one of them met.
        self.quick(tuple(itertools.combinations(range(21), 2)) + ((20, 21), (20, 22), (20, 23)), "claw")
        # A line whose middle one met somebody else.
        self.quick(tuple(sorted(LINE_24[:22] + ((11, 23),))), "claw")

    def test_what_visits_tells_instead(self):
        self.quick(RING_24, "ring")
        self.quick(tuple(pair for pair in PAIRS_24 if pair not in ((0, 1), (22, 23))), "ring")
        self.quick(tuple(sorted(SUN + tuple(pair for pair in PAIRS_24 if pair[1] > 5))), "three")


class IsClaw(unittest.TestCase):
    def test_all_meetings_of_four_persons(self):
        for pairs in brute.meetings_of(4):
            for person, *three in itertools.product(range(-1, 5), repeat=4):
                self.assertIs(is_claw(4, pairs, person, tuple(three)), brute.is_claw(4, pairs, person, three))

    def test_in_any_sequence(self):
        for three in itertools.permutations((1, 4, 5)):
            self.assertIs(is_claw(6, ((0, 3), (1, 3), (3, 4), (3, 5)), 3, three), True)

    def test_claws_with_a_change(self):
        pairs = ((0, 3), (1, 3), (2, 3), (3, 4), (4, 5))
        self.assertIs(is_claw(6, pairs, 3, (1, 2, 4)), True)
        for three in ((), (1,), (1, 2), (1, 2, 4, 0), (1, 2, 4, 4), (1, 2, 2), (1, 1, 4), (4, 2, 4), (1, 2, 3),
                      (1, 2, 5), (1, 2, -1), (1, 2, -2), (1, 2, 6), (1, HUGE, 4), (-5, -4, -2)):
            self.assertIs(is_claw(6, pairs, 3, three), False)
        for person in (0, 1, 2, 4, 5, -1, -3, 6, HUGE, -HUGE):
            self.assertIs(is_claw(6, pairs, person, (1, 2, 4)), False)
        for more in ((1, 2), (1, 4), (2, 4)):
            self.assertIs(is_claw(6, tuple(sorted(pairs + (more,))), 3, (1, 2, 4)), False)
        for less in ((1, 3), (2, 3), (3, 4)):
            fewer = tuple(pair for pair in pairs if pair != less)
            self.assertIs(is_claw(6, fewer, 3, (1, 2, 4)), False)

    def test_24_persons(self):
        for three in ((1, 2, 3), (23, 22, 21), (7, 23, 1)):
            self.assertIs(is_claw(24, STAR_24, 0, three), True)
            self.assertIs(is_claw(24, PAIRS_24, 0, three), False)
        self.assertIs(is_claw(24, STAR_24, 0, (1, 2, 24)), False)


class WhichErrorComesFirst(unittest.TestCase):
    def test_meetings_that_are_none(self):
        for pairs in BAD_PAIRS:
            self.assertRaises(InvalidMeetings, equal_visits, 4, pairs)
            for person, three in ((0, (1, 2, 3)), (0, ()), (-1, (0, 0, 0)), (HUGE, (1,))):
                self.assertRaises(InvalidMeetings, is_claw, 4, pairs, person, three)

    def test_no_meetings_of_other_numbers_of_persons(self):
        for n in NO_NUMBERS:
            for pairs in ((), ((0, 1),), ((1, 0),)):
                self.assertRaises(InvalidMeetings, equal_visits, n, pairs)
                self.assertRaises(InvalidMeetings, is_claw, n, pairs, 0, (1, 2, 3))
