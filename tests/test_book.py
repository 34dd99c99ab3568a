"""Point 8.1, and the heading unpartedrows/book.py."""

import itertools
import random
import time
import unittest

import brute
from samples import BAD_ORDERS, BAD_SETS, HUGE, NO_NUMBERS
from unpartedrows.book import Book
from unpartedrows.errors import InvalidOrder, InvalidTable, OutOfRange, UnpartedError
from unpartedrows.papers import paper_for
from unpartedrows.reducing import tree_of

TRIANGLE = ((0, 1), (0, 2), (1, 2))
NO_INDEXES = (-1, -2, -40, 40, 41, HUGE, -HUGE)


def book_of(n, sets):
    """A book to which these sets were added."""
    book = Book(n)
    for chosen in sets:
        book.add(chosen)
    return book


class Written:
    """What a book is held against: a plain list of the tables that were there."""

    def __init__(self, n):
        self.n = n
        self.tables = [()]
        self.at = 0

    def sets(self):
        return self.tables[self.at]

    def act(self, table):
        """The same for each act that is not refused."""
        self.tables = self.tables[:self.at + 1] + [tuple(table)]
        self.at += 1

    def is_set(self, chosen):
        return list(chosen) == sorted(set(chosen) & set(range(self.n)))

    def refusal(self, name, arguments):
        """The error that the act must raise, or None."""
        if name == "add":
            if not self.is_set(arguments[0]):
                return InvalidTable
            return OutOfRange if len(self.sets()) == 40 else None
        if not 0 <= arguments[0] < len(self.sets()):
            return OutOfRange
        return InvalidTable if name == "put" and not self.is_set(arguments[1]) else None

    def do(self, name, arguments):
        table = list(self.sets())
        if name == "add":
            table.append(arguments[0])
        elif name == "drop":
            del table[arguments[0]]
        else:
            table[arguments[0]] = arguments[1]
        self.act(table)

    def move(self, step):
        """Undo or redo."""
        if not 0 <= self.at + step < len(self.tables):
            return False
        self.at += step
        return True


class Held(unittest.TestCase):
    def hold(self, book, written):
        """The book tells what its table tells."""
        sets = written.sets()
        self.assertEqual(book.sets(), sets)
        self.assertEqual([type(book.sets()), *map(type, book.sets())], [tuple] * (len(sets) + 1))
        self.assertEqual(book.n, written.n)
        tree = tree_of(written.n, sets)
        self.assertEqual(book.tree(), tree)
        self.assertEqual(book.answer(), paper_for(written.n, sets) if tree is None else ("tree", tree))

    def act(self, book, written, name, arguments):
        """Do one act, or see that it is refused and changes nothing."""
        refusal = written.refusal(name, arguments)
        if refusal is None:
            self.assertIsNone(getattr(book, name)(*arguments))
            written.do(name, arguments)
        else:
            self.assertRaises(refusal, getattr(book, name), *arguments)
        self.assertEqual(book.sets(), written.sets())

    def drawn_act(self, n, many, chance):
        """The name and the arguments of an act, good or bad."""
        name = chance.choice(("add", "add", "drop", "put"))
        chosen = brute.drawn_sets(n, 1, chance)[0]
        if chance.random() < 0.15:
            chosen = chance.choice(((n,), (-1,), (0, 0), (n - 1, 0), (HUGE,), tuple(range(n + 1)), (1, 0)))
        index = chance.randint(-2, many + 1)
        return name, {"add": (chosen,), "drop": (index,), "put": (index, chosen)}[name]


class DrawnActs(Held):
    def test_books_of_few_things(self):
        chance = random.Random(161)
        for n in (2, 3, 4, 5):
            for _ in range(25):
                book, written = Book(n), Written(n)
                for _ in range(40):
                    kind = chance.random()
                    if kind < 0.2:
                        self.assertIs(book.undo(), written.move(-1))
                    elif kind < 0.35:
                        self.assertIs(book.redo(), written.move(1))
                    else:
                        self.act(book, written, *self.drawn_act(n, len(written.sets()), chance))
                    self.hold(book, written)
                    order = tuple(chance.sample(range(n), n))
                    self.assertIs(book.fits(order), brute.fits(order, written.sets()))

    def test_books_with_about_40_sets(self):
        chance = random.Random(162)
        for _ in range(10):
            book, written = Book(6), Written(6)
            for chosen in brute.drawn_sets(6, 39, chance):
                self.act(book, written, "add", (chosen,))
            for _ in range(60):
                kind = chance.random()
                if kind < 0.2:
                    self.assertIs(book.undo(), written.move(-1))
                elif kind < 0.4:
                    self.assertIs(book.redo(), written.move(1))
                else:
                    self.act(book, written, *self.drawn_act(6, len(written.sets()), chance))
                self.assertEqual(book.sets(), written.sets())

    def test_all_is_taken_back_and_done_again(self):
        chance = random.Random(163)
        for _ in range(20):
            book, written = Book(5), Written(5)
            for _ in range(30):
                self.act(book, written, *self.drawn_act(5, len(written.sets()), chance))
            for step, move in ((-1, book.undo), (1, book.redo), (-1, book.undo)):
                for _ in range(len(written.tables) - 1):
                    self.assertIs(written.move(step), True)
                    self.assertIs(move(), True)
                    self.assertEqual(book.sets(), written.sets())
                self.assertIs(written.move(step), False)
                self.assertIs(move(), False)
                self.assertEqual(book.sets(), written.sets())

    def test_two_books_know_nothing_of_each_other(self):
        first, second = Book(3), Book(3)
        first.add((0, 1))
        self.assertEqual(second.sets(), ())
        self.assertIs(second.undo(), False)
        second.add((1, 2))
        first.undo()
        self.assertEqual((first.sets(), second.sets()), ((), ((1, 2),)))


class Acts(unittest.TestCase):
    def test_a_new_book(self):
        for n in range(1, 25):
            book = Book(n)
            self.assertEqual((book.n, book.sets()), (n, ()))
            self.assertEqual(book.tree(), tree_of(n, ()))
            self.assertIs(book.undo(), False)
            self.assertIs(book.redo(), False)
            self.assertEqual(vars(book)["n"], n)

    def test_numbers_of_things(self):
        for n in NO_NUMBERS:
            self.assertRaises(OutOfRange, Book, n)

    def test_examples(self):
        book = Book(4)
        book.add((0, 1))
        book.add((1, 2))
        book.add((0, 1))
        self.assertEqual(book.sets(), ((0, 1), (1, 2), (0, 1)))
        book.drop(0)
        self.assertEqual(book.sets(), ((1, 2), (0, 1)))
        book.put(0, ())
        self.assertEqual(book.sets(), ((), (0, 1)))
        book.put(1, (2, 3))
        self.assertEqual(book.sets(), ((), (2, 3)))
        book.drop(1)
        self.assertEqual(book.sets(), ((),))
        self.assertEqual([book.undo() for _ in range(3)], [True] * 3)
        self.assertEqual(book.sets(), ((1, 2), (0, 1)))
        self.assertEqual([book.redo(), book.redo()], [True, True])
        self.assertEqual(book.sets(), ((), (2, 3)))

    def test_an_act_behind_an_undo_leaves_nothing_to_do_again(self):
        for name, arguments in (("add", ((1,),)), ("drop", (0,)), ("put", (0, (2,))), ("put", (0, (0, 1)))):
            book = book_of(3, ((0, 1), (1, 2), (0, 2)))
            book.undo()
            book.undo()
            getattr(book, name)(*arguments)
            sets = book.sets()
            self.assertIs(book.redo(), False)
            self.assertEqual(book.sets(), sets)
            self.assertIs(book.undo(), True)
            self.assertEqual(book.sets(), ((0, 1),))
            self.assertIs(book.redo(), True)
            self.assertEqual(book.sets(), sets)

    def test_a_refused_act_between_undo_and_redo_changes_nothing(self):
        book = book_of(3, ((0, 1), (1, 2)))
        book.undo()
        for name, arguments in (("add", ((3,),)), ("add", ((1, 0),)), ("drop", (1,)), ("drop", (-1,)),
                                ("put", (1, (0,))), ("put", (0, (3,))), ("put", (0, (1, 1))), ("put", (-1, (0,)))):
            self.assertRaises(UnpartedError, getattr(book, name), *arguments)
            self.assertEqual(book.sets(), ((0, 1),))
        self.assertRaises(InvalidOrder, book.fits, (0, 1))
        self.assertIs(book.redo(), True)
        self.assertEqual(book.sets(), ((0, 1), (1, 2)))
        self.assertIs(book.redo(), False)

    def test_putting_what_was_there_is_an_act(self):
        book = book_of(3, ((0, 1),))
        book.put(0, (0, 1))
        self.assertIs(book.undo(), True)
        self.assertEqual(book.sets(), ((0, 1),))
        self.assertIs(book.undo(), True)
        self.assertEqual(book.sets(), ())

    def test_asking_is_no_act(self):
        book = book_of(3, TRIANGLE)
        book.undo()
        self.assertEqual(book.tree(), ("row", (1, 0, 2)))
        book.answer()
        book.fits((0, 1, 2))
        book.sets()
        self.assertIs(book.redo(), True)
        self.assertEqual(book.sets(), TRIANGLE)

    def test_what_was_told_does_not_change_with_later_acts(self):
        book = book_of(3, ((0, 1), (1, 2)))
        before = book.sets()
        book.add((0, 2))
        book.drop(0)
        book.put(0, ())
        book.undo()
        self.assertEqual(before, ((0, 1), (1, 2)))


class Edges(unittest.TestCase):
    def test_indexes_of_no_set(self):
        for many in (0, 1, 2, 39, 40):
            book = book_of(3, ((0, 1),) * many)
            for index in NO_INDEXES + (many, many + 1, -many):
                if not 0 <= index < many:
                    self.assertRaises(OutOfRange, book.drop, index)
                    self.assertRaises(OutOfRange, book.put, index, (0, 2))
            self.assertEqual(book.sets(), ((0, 1),) * many)

    def test_the_first_and_the_last_index(self):
        sets = tuple((low, high) for low, high in itertools.combinations(range(24), 2))[:40]
        for index in (0, 1, 20, 38, 39):
            book = book_of(24, sets)
            book.put(index, (23,))
            self.assertEqual(book.sets(), sets[:index] + ((23,),) + sets[index + 1:])
            book.undo()
            book.drop(index)
            self.assertEqual(book.sets(), sets[:index] + sets[index + 1:])

    def test_the_41st_set(self):
        book = book_of(3, ((0, 1),) * 40)
        for chosen in ((), (0, 1), (0, 1, 2)):
            self.assertRaises(OutOfRange, book.add, chosen)
        for chosen in BAD_SETS:
            self.assertRaises(InvalidTable, book.add, chosen)
        self.assertEqual(book.sets(), ((0, 1),) * 40)
        book.put(39, (1, 2))
        book.drop(0)
        book.add((0,))
        self.assertRaises(OutOfRange, book.add, (0,))
        self.assertEqual(book.sets(), ((0, 1),) * 38 + ((1, 2), (0,)))
        self.assertEqual([book.undo() for _ in range(44)], [True] * 43 + [False])

    def test_which_error_comes_first_in_put(self):
        book = book_of(3, ((0, 1), (1, 2)))
        for chosen in BAD_SETS:
            for index in (0, 1):
                self.assertRaises(InvalidTable, book.put, index, chosen)
            for index in (-1, 2, HUGE, -HUGE):
                self.assertRaises(OutOfRange, book.put, index, chosen)
            self.assertRaises(OutOfRange, Book(3).put, 0, chosen)

    def test_sets_must_be_of_so_many_things(self):
        for n in (1, 2, 23, 24):
            book = Book(n)
            book.add((n - 1,))
            self.assertRaises(InvalidTable, book.add, (n,))
            self.assertRaises(InvalidTable, book.put, 0, (n,))
            self.assertEqual(book.sets(), ((n - 1,),))


class Answers(unittest.TestCase):
    def test_a_tree_or_a_paper(self):
        book = Book(3)
        self.assertEqual(book.answer(), ("tree", ("any", (0, 1, 2))))
        for chosen in TRIANGLE:
            book.add(chosen)
        self.assertIsNone(book.tree())
        self.assertEqual(book.answer(), paper_for(3, TRIANGLE))
        self.assertEqual(book.answer()[0], "three")
        book.drop(1)
        self.assertEqual(book.answer(), ("tree", ("row", (0, 1, 2))))
        self.assertEqual(Book(1).answer(), ("tree", 0))

    def test_all_orders_of_few_things(self):
        for n in (1, 2, 3, 4):
            chance = random.Random(n)
            for sets in ((), ((),), ((0,),) * 2, tuple(brute.sets_below(n))[:4], brute.drawn_sets(n, 2, chance)):
                book = book_of(n, sets)
                for order in brute.orders_of(n):
                    self.assertIs(book.fits(order), brute.fits(order, sets))

    def test_orders_that_are_none(self):
        for sets in ((), TRIANGLE):
            book = book_of(3, sets)
            for order in BAD_ORDERS:
                self.assertRaises(InvalidOrder, book.fits, order)
        for order in ((), (1,), (0, 1), (0, 0), (-1,)):
            self.assertRaises(InvalidOrder, Book(1).fits, order)

    def test_how_long_great_books_take(self):
        pairs = tuple((thing, thing + 1) for thing in range(23)) + tuple(tuple(range(many)) for many in range(3, 20))
        for sets in (pairs, pairs[:39] + ((0, 23),), ((0, 1),) * 40):
            begun = time.perf_counter()
            book = book_of(24, sets)
            book.answer()
            book.fits(tuple(range(24)))
            for _ in range(500):
                book.drop(0)
                book.add((0, 1))
            for _ in range(1000):
                book.undo()
            self.assertLess(time.perf_counter() - begun, 2)
            self.assertEqual(book.sets(), sets)
