"""Points 5.1, 7.1 and 8.1, and the heading unpartedrows/meetings.py."""

import itertools
import random
import time
import unittest

import brute
from samples import ARMS, BAD_PAIRS, HUGE, LINE_24, NO_NUMBERS, PAIRS_24, RING_24, SUN
from unpartedrows.equals import equal_visits
from unpartedrows.errors import InvalidMeetings, OutOfRange
from unpartedrows.graphs import check_meetings
from unpartedrows.meetings import Meetings, read_pairs, write_pairs
from unpartedrows.visits import visits

SIGNS = "0123456789- \n{}[],~"
LONG = 10 ** 5


def meetings_with(n, pairs):
    """A book of meetings to which these were added."""
    book = Meetings(n)
    for i, j in pairs:
        book.meet(i, j)
    return book


class Held(unittest.TestCase):
    def hold(self, n, book, pairs):
        """The book tells what the functions tell for these meetings, which stand in ascending order."""
        self.assertEqual(book.pairs(), tuple(sorted(pairs)))
        self.assertEqual([type(book.pairs()), *map(type, book.pairs())], [tuple] * (len(pairs) + 1))
        check_meetings(n, book.pairs())
        self.assertEqual(book.visits(), visits(n, book.pairs()))
        self.assertEqual(book.equal_visits(), equal_visits(n, book.pairs()))


class DrawnActs(Held):
    def draw(self, n, times, chance):
        """Drawn acts, held against a plain list of the meetings that were there."""
        book, states, at = Meetings(n), [frozenset()], 0
        for _ in range(times):
            kind = chance.random()
            if kind < 0.4:
                i, j = chance.randint(-1, n), chance.randint(-1, n)
                name = chance.choice(("meet", "meet", "forget"))
                if not 0 <= i < j < n:
                    self.assertRaises(InvalidMeetings, getattr(book, name), i, j)
                else:
                    after = states[at] | {(i, j)} if name == "meet" else states[at] - {(i, j)}
                    self.assertIs(getattr(book, name)(i, j), after != states[at])
                    if after != states[at]:
                        states = states[:at + 1] + [after]
                        at += 1
            else:
                step = 1 if kind < 0.6 else -1 if kind < 0.75 else 0
                if step != 0:
                    moved = 0 <= at + step < len(states)
                    self.assertIs(book.redo() if step == 1 else book.undo(), moved)
                    at += step if moved else 0
            self.assertEqual(book.pairs(), tuple(sorted(states[at])))
        self.hold(n, book, states[at])

    def test_few_persons(self):
        chance = random.Random(171)
        for n in (1, 2, 3, 4, 5):
            for _ in range(20):
                self.draw(n, 80, chance)

    def test_many_persons(self):
        chance = random.Random(172)
        for n in (12, 24):
            for _ in range(5):
                self.draw(n, 300, chance)


class Acts(Held):
    def test_a_new_book(self):
        for n in range(1, 25):
            book = Meetings(n)
            self.hold(n, book, ())
            self.assertIs(book.undo(), False)
            self.assertIs(book.redo(), False)

    def test_numbers_of_persons(self):
        for n in NO_NUMBERS:
            self.assertRaises(OutOfRange, Meetings, n)

    def test_examples(self):
        book = Meetings(4)
        self.assertIs(book.meet(1, 3), True)
        self.assertIs(book.meet(0, 2), True)
        self.assertIs(book.meet(0, 1), True)
        self.assertEqual(book.pairs(), ((0, 1), (0, 2), (1, 3)))
        self.assertIs(book.forget(0, 2), True)
        self.assertEqual(book.pairs(), ((0, 1), (1, 3)))
        self.assertIs(book.undo(), True)
        self.assertEqual(book.pairs(), ((0, 1), (0, 2), (1, 3)))
        self.assertIs(book.undo(), True)
        self.assertEqual(book.pairs(), ((0, 2), (1, 3)))
        self.assertIs(book.redo(), True)
        self.assertIs(book.redo(), True)
        self.assertIs(book.redo(), False)
        self.assertEqual(book.pairs(), ((0, 1), (1, 3)))

    def test_pairs_in_ascending_order(self):
        chance = random.Random(173)
        for n, many in ((4, 6), (24, 30), (24, 276)):
            pairs = chance.sample(list(itertools.combinations(range(n), 2)), many)
            self.assertEqual(meetings_with(n, pairs).pairs(), tuple(sorted(pairs)))

    def test_meeting_twice_is_no_act(self):
        book = meetings_with(3, ((0, 1), (1, 2)))
        self.assertIs(book.meet(0, 1), False)
        self.assertIs(book.undo(), True)
        self.assertEqual(book.pairs(), ((0, 1),))
        self.assertIs(book.meet(0, 1), False)
        self.assertIs(book.redo(), True)
        self.assertEqual(book.pairs(), ((0, 1), (1, 2)))

    def test_forgetting_what_was_not_there_is_no_act(self):
        book = meetings_with(3, ((0, 1), (1, 2)))
        self.assertIs(book.forget(0, 2), False)
        self.assertIs(book.undo(), True)
        self.assertIs(book.forget(1, 2), False)
        self.assertEqual(book.pairs(), ((0, 1),))
        self.assertIs(book.redo(), True)
        self.assertEqual(book.pairs(), ((0, 1), (1, 2)))
        self.assertIs(Meetings(2).forget(0, 1), False)

    def test_an_act_behind_an_undo_leaves_nothing_to_do_again(self):
        for name, pair, after in (("meet", (0, 2), ((0, 1), (0, 2))), ("meet", (1, 2), ((0, 1), (1, 2))),
                                  ("forget", (0, 1), ())):
            book = meetings_with(3, ((0, 1), (1, 2)))
            book.undo()
            self.assertIs(getattr(book, name)(*pair), True)
            self.assertIs(book.redo(), False)
            self.assertEqual(book.pairs(), after)
            self.assertIs(book.undo(), True)
            self.assertEqual(book.pairs(), ((0, 1),))

    def test_numbers_that_are_no_meeting(self):
        for n in (1, 2, 4, 24):
            book = meetings_with(n, tuple(itertools.combinations(range(n), 2)))
            pairs = book.pairs()
            book.undo()
            left = book.pairs()
            for i, j in ((0, 0), (1, 0), (1, 1), (-1, 0), (0, -1), (-2, -1), (0, n), (n - 1, n), (n, n + 1), (n, 0),
                         (n - 1, n - 1), (0, HUGE), (-HUGE, 0), (HUGE, HUGE), (0, 24), (-1, 1)):
                self.assertRaises(InvalidMeetings, book.meet, i, j)
                self.assertRaises(InvalidMeetings, book.forget, i, j)
                self.assertEqual(book.pairs(), left)
            self.assertIs(book.redo(), n > 1)
            self.assertEqual(book.pairs(), pairs)

    def test_what_was_told_does_not_change_with_later_acts(self):
        book = meetings_with(3, ((0, 1),))
        before = book.pairs()
        book.meet(1, 2)
        book.forget(0, 1)
        self.assertEqual(before, ((0, 1),))

    def test_two_books_know_nothing_of_each_other(self):
        first, second = Meetings(3), Meetings(3)
        first.meet(0, 1)
        self.assertEqual(second.pairs(), ())
        self.assertIs(second.undo(), False)


class Told(Held):
    def test_what_the_functions_tell(self):
        for n, pairs in ((7, ARMS), (6, SUN), (4, ((0, 1), (0, 3), (1, 2), (2, 3))), (4, ((0, 1), (0, 2), (0, 3))),
                         (24, PAIRS_24), (24, LINE_24), (24, RING_24)):
            self.hold(n, meetings_with(n, pairs), pairs)
        for pairs in brute.meetings_of(4):
            self.hold(4, meetings_with(4, pairs), pairs)

    def test_each_kind_of_answer(self):
        self.assertEqual(meetings_with(7, ARMS).visits()[0], "three")
        self.assertEqual(meetings_with(24, RING_24).visits()[0], "ring")
        self.assertEqual(meetings_with(24, LINE_24).visits()[0], "hours")
        self.assertEqual(meetings_with(24, LINE_24).equal_visits()[0], "equal")
        self.assertEqual(meetings_with(4, ((0, 1), (0, 2), (0, 3))).equal_visits()[0], "claw")


class Texts(unittest.TestCase):
    def refuse(self, n, texts):
        for text in texts:
            begun = time.perf_counter()
            with self.subTest(text[:40]):
                self.assertRaises(InvalidMeetings, read_pairs, n, text)
            self.assertLess(time.perf_counter() - begun, 2)

    def read_all(self, n, known, texts):
        for text in texts:
            if text in known:
                self.assertEqual(read_pairs(n, text), known[text])
            else:
                self.assertRaises(InvalidMeetings, read_pairs, n, text)

    def test_all_meetings_of_few_persons(self):
        for n in range(1, 5):
            known = {brute.written_pairs(pairs): pairs for pairs in brute.meetings_of(n)}
            for text, pairs in known.items():
                self.assertEqual(write_pairs(pairs), text)
                found = read_pairs(n, text)
                self.assertEqual([type(found), *map(type, found)], [tuple] * (len(pairs) + 1))
                self.assertEqual(found, pairs)
                self.read_all(n, known, brute.edited(text, SIGNS))

    def test_all_short_texts(self):
        for n in (1, 2, 3, 4):
            known = {brute.written_pairs(pairs): pairs for pairs in brute.meetings_of(n)}
            for many in range(8):
                if 5 ** many < 80000:
                    self.read_all(n, known, map("".join, itertools.product("012-\n", repeat=many)))

    def test_drawn_meetings(self):
        chance = random.Random(174)
        for n in range(1, 25):
            for share in (0.0, 0.1, 0.5, 1.0):
                pairs = tuple(pair for pair in itertools.combinations(range(n), 2) if chance.random() < share)
                self.assertEqual(write_pairs(pairs), brute.written_pairs(pairs))
                self.assertEqual(read_pairs(n, write_pairs(pairs)), pairs)

    def test_examples(self):
        self.assertEqual(write_pairs(()), "")
        self.assertEqual(write_pairs(((0, 1),)), "0-1")
        self.assertEqual(write_pairs(((0, 2), (0, 10), (9, 23))), "0-2\n0-10\n9-23")
        self.assertEqual(read_pairs(24, "0-2\n0-10\n9-23"), ((0, 2), (0, 10), (9, 23)))
        self.assertEqual(read_pairs(1, ""), ())

    def test_texts_that_are_no_meetings(self):
        self.refuse(4, [" ", "\n", "-", "0", "0-", "-1", "0-1-2", "0--1", "-0-1", "0- 1", "0 -1", "0 1", " 0-1", "0-1 ",
                        "0-1\n", "\n0-1", "0-1\n\n0-2", "00-1", "0-01", "+0-1", "0-0", "1-0", "1-1", "0-4", "4-5",
                        "3-4",
                        "0-1\n0-1", "0-2\n0-1", "1-2\n0-3", "0-1 0-2", "0-1,0-2", "(0, 1)", "0-1\n1-0", "0-1\nx", "a-b",
                        "0_1", "0:1", "0-1\r\n0-2", "{0-1}", "0-" + "9" * 300, "9" * 300 + "-1", "0-1\n0-" + "0" * 299])
        self.refuse(1, ["0-0", "0-1", "0", "-", "0-"])
        self.refuse(2, ["0-2", "1-2", "0-1\n0-1"])
        self.refuse(24, ["0-24", "23-24", "0-1\n22-24", brute.written_pairs(PAIRS_24) + "\n",
                         brute.written_pairs(PAIRS_24) + "\n22-23", brute.written_pairs(PAIRS_24[::-1])])
        self.refuse(23, ["0-23", brute.written_pairs(PAIRS_24)])

    def test_long_texts(self):
        for n in (1, 2, 4, 24):
            self.refuse(n, ["\n" * LONG, "-" * LONG, "0-1\n" * (LONG // 4), ("0-1\n" * (LONG // 4))[:-1], "0" * LONG,
                            ("0-1\n0-2\n" * (LONG // 8))[:-1], " " * LONG, "0-\n" * 33333, "\n".join(["9" * 300] * 332),
                            "\n".join(["9" * 300 + "-" + "9" * 300] * 160)])

    def test_numbers_of_persons_that_there_are_not(self):
        for n in NO_NUMBERS:
            for text in ("", "0-1", "x", "0-1\n0-1", "9" * 300):
                self.assertRaises(InvalidMeetings, read_pairs, n, text)

    def test_what_is_no_meetings_is_not_written(self):
        for pairs in BAD_PAIRS:
            if pairs != ((0, 4),):
                self.assertRaises(InvalidMeetings, write_pairs, pairs)
                self.assertRaises(InvalidMeetings, write_pairs, pairs + ((22, 23),))
        for pairs in (((0, 24),), ((23, 24),), ((0, 1), (5, 24)), ((22, 23), (0, 1)), PAIRS_24[::-1]):
            self.assertRaises(InvalidMeetings, write_pairs, pairs)
        self.assertEqual(write_pairs(((0, 4), (22, 23))), "0-4\n22-23")
