"""Point 7.1, and the heading unpartedrows/text.py."""

import itertools
import random
import time
import unittest

import brute
from samples import GREATEST, HUGE, NESTED_8, NO_NUMBERS
from unpartedrows.errors import InvalidTable, InvalidText, InvalidTree, OutOfRange
from unpartedrows.text import read_set, read_table, read_tree, write_set, write_table, write_tree
from unpartedrows.trees import normal

SIGNS = "0123456789 {}[]-\n()+,_aA~\t\r"
LONG = 10 ** 5
# What no reading function takes, whatever it reads.
NO_TEXTS = (" ", "\n\n", "{", "}", "[", "]", "{}", "[]", "--", "- ", " -", "a", "~", "0,1", "{ }", "0\t1", "+0", "-0",
            "-1", "00", "0.0", "1e0", "0x0", "0_0", "1_0", "{-}", "any", "None", "9" * 300, "1" + "0" * 299, "0" * 300,
            "-" + "9" * 299)
# They take at most a second or two.
LONG_TEXTS = (" " * LONG, "\n" * LONG, "0 " * (LONG // 2), ("0 " * (LONG // 2))[:-1], "0\n" * (LONG // 2),
              ("-\n" * (LONG // 2))[:-1], "-" * LONG, "}" * 100 + " " * (LONG - 100), "{" * 100,
              "{" * 50 + "0 1" + "}" * 50, "{" * 100 + ("0 " * (LONG // 2 - 50))[:-1] + "1", "[" * 99 + "0" + "]" * 99,
              "{" + ("0 " * (LONG // 2 - 1))[:-1] + "}", "[" + "0 1 2 " * 16000 + "0]",
              " ".join(["9" * 300] * 332), "{" + " ".join(["9" * 300] * 332) + "}", "a" * LONG, "0 1\n" * (LONG // 4))


class Refusing(unittest.TestCase):
    def refuse(self, function, n, texts):
        """Each text is InvalidText, and takes no longer than a second or two."""
        for text in texts:
            begun = time.perf_counter()
            with self.subTest(text[:40]):
                self.assertRaises(InvalidText, function, n, text)
            self.assertLess(time.perf_counter() - begun, 2)

    def read_all(self, function, n, known, texts):
        """What is told for the known texts is the known value; all others are InvalidText."""
        for text in texts:
            if text in known:
                found = function(n, text)
                self.assertEqual(found, known[text])
                self.assertIs(type(found), type(known[text]))
            else:
                self.assertRaises(InvalidText, function, n, text)


def all_written_trees(n):
    """The normal form by each written form of each tree over n things, with its parts in any sequence."""
    return {brute.written(form): tree for tree in brute.trees_over(tuple(range(n))) for form in brute.forms(tree)}


class Trees(Refusing):
    def test_each_tree_of_few_things_in_any_form(self):
        for n in range(1, 5):
            for tree in brute.trees_over(tuple(range(n))):
                for form in brute.forms(tree):
                    text = write_tree(form)
                    self.assertEqual(text, brute.written(form))
                    self.assertEqual(read_tree(n, text), tree)

    def test_drawn_trees_of_five_and_six_things(self):
        chance = random.Random(151)
        for n in (5, 6):
            for tree in chance.sample(brute.trees_over(tuple(range(n))), 200):
                form = brute.shuffled(tree, chance)
                self.assertEqual(write_tree(form), brute.written(form))
                self.assertEqual(read_tree(n, brute.written(form)), tree)

    def test_great_trees(self):
        for tree in GREATEST + (NESTED_8,):
            n = len(brute.leaves(tree))
            for form in (tree, normal(tree), brute.mirrored(tree)):
                self.assertEqual(write_tree(form), brute.written(form))
                self.assertEqual(read_tree(n, write_tree(form)), normal(tree))

    def test_examples(self):
        self.assertEqual(write_tree(7), "7")
        self.assertEqual(write_tree(("any", (1, 0))), "{1 0}")
        self.assertEqual(write_tree(("row", (10, ("any", (2, ("row", (1, 3, 12)))), 0))), "[10 {2 [1 3 12]} 0]")
        self.assertEqual(read_tree(1, "0"), 0)
        self.assertEqual(read_tree(2, "{1 0}"), ("any", (0, 1)))
        self.assertEqual(read_tree(5, "[4 {3 {2 1}} 0]"), ("row", (0, ("any", (("any", (1, 2)), 3)), 4)))

    def test_any_integers_from_0_on_can_be_written(self):
        self.assertEqual(write_tree(("any", (24, 5, 100))), "{24 5 100}")
        for tree in (25, ("row", (9, 99, 10 ** 30))):
            self.assertEqual(write_tree(tree), brute.written(tree))
        for digits in (63, 64, 65, 127, 128, 129, 4300, 4301, 6000):
            power = "1" + "0" * digits
            self.assertEqual(write_tree(10 ** digits), power)
            self.assertEqual(write_tree(10 ** digits - 1), "9" * digits)
            self.assertEqual(write_tree(("any", (10 ** digits + 7, 0))), "{" + power[:-1] + "7 0}")
            sparse = "7" + "0" * 8 + "1" + "0" * (digits - 9)
            self.assertEqual(write_tree(7 * 10 ** digits + 10 ** (digits - 9)), sparse)

    def test_all_texts_that_differ_by_one_character(self):
        chance = random.Random(152)
        for n, most in ((1, 1), (2, 2), (3, 30), (4, 60)):
            known = all_written_trees(n)
            for text in chance.sample(sorted(known), min(most, len(known))):
                self.read_all(read_tree, n, known, brute.edited(text, SIGNS))
        self.refuse(read_tree, 12, brute.edited("{0 {1 2} [3 4 {5 6}] 7 8 9 {10 11}}", SIGNS))

    def test_all_short_texts(self):
        for n in (1, 2, 3):
            known = all_written_trees(n)
            for many in range(6):
                self.read_all(read_tree, n, known, map("".join, itertools.product("012 {}[]", repeat=many)))

    def test_things_that_do_not_stand_once(self):
        self.refuse(read_tree, 3, ["0", "{0 1}", "{0 1 3}", "{1 2 3}", "{0 1 1}", "{0 1 2 2}", "{0 1 2 3}", "{0 {1 1}}",
                                   "{0 0}", "{0 2}", "[0 1 0]", "[0 1 3]", "{0 1 {2 0}}", "{0 1 24}", "{0 1 25}"])
        self.refuse(read_tree, 24, [" ".join(map(str, range(24))), "{" + " ".join(map(str, range(25))) + "}",
                                    "{" + " ".join(map(str, range(23))) + "}"])

    def test_spaces_and_brackets(self):
        self.refuse(read_tree, 3, [" {0 1 2}", "{0 1 2} ", "{ 0 1 2}", "{0 1 2 }", "{0  1 2}", "{0 1 2", "0 1 2}",
                                   "0 1 2", "{0 1 2]", "[0 1 2}", "{0 {1 2}", "{0 1 2}}", "{{0 1 2}}", "{0 {1} 2}",
                                   "[0 {1} 2]", "[0 1]", "{0 [1 2]}", "{[0 1] 2}", "{0{1 2}}", "{{0 1}2}", "{0 1 2}\n",
                                   "\n{0 1 2}", "{0\n1 2}", "{0 1 2}{}", "{0 1 2} {}", "{}", "[]", "{0 1 2} 0",
                                   "0 {1 2}", "{0 1} 2", "({0 1 2})", "{00 1 2}", "{0 01 2}", "{0 -1 2}", "{0 1 +2}",
                                   "}0 1 2{", "}{0 1 2}", "]0 1 2[", "{0 1 2} {0 1 2}", "{0 1 2}]", "{[0 1 2}]",
                                   "{0 [1 2}]", "", "{0 1 " + "2" * 300 + "}", "{0 1 " + "0" * 299 + "2}"])
        self.refuse(read_tree, 4, ["{{0 1}{2 3}}", "{{0 1} {2 3}", "{[0 1 2] 3]", "[0 [1 2 3}]", "{[0 1 2} 3]",
                                   "{{0 1} [2 3]}", "{{0 1} {2} 3}", "{{0 1}  {2 3}}"])
        self.refuse(read_tree, 1, ["{0}", "[0]", "{{0}}", "00", "0 ", " 0", "0\n", "1", "-0", "+0", "", "0 0"])

    def test_other_texts_and_long_ones(self):
        for n in (1, 2, 3, 24):
            self.refuse(read_tree, n, NO_TEXTS + LONG_TEXTS)

    def test_100_brackets_that_are_wrong_only_within(self):
        deep = "{" * 23 + "0 1" + "".join("} " + str(thing) for thing in range(2, 24)) + "}"
        self.assertEqual(read_tree(24, deep), normal(brute.deep_any(24)))
        self.refuse(read_tree, 24, ["{" + deep + "}", "{" * 77 + deep + "}" * 77, deep[:-1], deep + "}",
                                    "{" * 99 + "0" + " 0}" * 99, "{0 " * 99 + "0" + "}" * 99])

    def test_numbers_of_things_come_first(self):
        for n in NO_NUMBERS:
            for text in ("0", "{0 1}", "", "x", "{0 1", "9" * 300):
                self.assertRaises(OutOfRange, read_tree, n, text)

    def test_what_is_no_tree_is_not_written(self):
        for tree in (-1, -HUGE, ("any", (0, -1)), ("row", (0, 1)), ("any", (0, 0)), ("any", (3,)), (), ("any",),
                     ("any", (0, 1), 0), ("{", (0, 1)), ("", (0, 1)), ("any", ()), ("any", (0, ("row", (1, 2)))),
                     ("row", (0, 1, ("any", (2, ("any", (3, -4)))))), ("any", (HUGE, ("any", (0, HUGE))))):
            self.assertRaises(InvalidTree, write_tree, tree)


class Sets(Refusing):
    def test_each_set_of_few_things(self):
        for n in range(1, 6):
            known = {brute.written_set(chosen): chosen for chosen in brute.sets_below(n)}
            for text, chosen in known.items():
                self.assertEqual(write_set(chosen), text)
                self.assertEqual(read_set(n, text), chosen)
                self.read_all(read_set, n, known, brute.edited(text, SIGNS))

    def test_all_short_texts(self):
        for n in (1, 2, 3, 12):
            known = {brute.written_set(chosen): chosen for chosen in brute.sets_below(n)}
            for many in range(6):
                self.read_all(read_set, n, known, map("".join, itertools.product("0123 -\n", repeat=many)))

    def test_drawn_sets_of_24_things(self):
        chance = random.Random(153)
        for chosen in brute.drawn_sets(24, 200, chance) + ((), tuple(range(24))):
            self.assertEqual(write_set(chosen), brute.written_set(chosen))
            self.assertEqual(read_set(24, write_set(chosen)), chosen)

    def test_examples(self):
        self.assertEqual(write_set(()), "-")
        self.assertEqual(write_set((0, 9, 10, 23)), "0 9 10 23")
        self.assertEqual(read_set(24, "0 9 10 23"), (0, 9, 10, 23))
        self.assertEqual(read_set(1, "-"), ())
        self.assertEqual(read_set(1, "0"), (0,))

    def test_texts_that_are_no_set(self):
        self.refuse(read_set, 3, ["", "3", "0 3", "1 0", "0 0", "0 1 1", "0 2 1", "0  1", " 0", "0 ", "0\n", "\n0",
                                  "0\n1", "- 0", "0 -", "-\n", "--", " -", "- ", "00", "01", "0 01", "-1", "0 -1", "{0 1}",
                                  "0 1 2 3", "0 1 2 0", "0,1", "0-1", "24", "0 1 25"])
        for n in (1, 2, 24):
            self.refuse(read_set, n, NO_TEXTS + LONG_TEXTS)
        self.refuse(read_set, 23, ["23", "0 23"])
        self.refuse(read_set, 24, ["24", "0 24", " ".join(map(str, range(25)))])

    def test_numbers_of_things_come_first(self):
        for n in NO_NUMBERS:
            for text in ("-", "", "0", "x", "1 0", "9" * 300):
                self.assertRaises(OutOfRange, read_set, n, text)

    def test_what_is_no_set_is_not_written(self):
        for chosen in ((24,), (1, 0), (1, 1), (-1,), (-1, 0), (HUGE,), tuple(range(25)), (0, 1, 24), (23, 24)):
            self.assertRaises(InvalidTable, write_set, chosen)


class Tables(Refusing):
    def test_small_tables(self):
        for n, most in ((1, 3), (2, 2), (3, 2)):
            tables = [sets for many in range(most + 1) for sets in itertools.product(brute.sets_below(n), repeat=many)]
            known = {brute.written_table(sets): sets for sets in tables}
            self.assertEqual(len(known), len(tables))
            for text, sets in known.items():
                self.assertEqual(write_table(sets), text)
                self.assertEqual(read_table(n, text), sets)
                if len(sets) < most:
                    self.read_all(read_table, n, known, brute.edited(text, SIGNS))

    def test_drawn_tables(self):
        chance = random.Random(154)
        for n in range(1, 25):
            for many in (0, 1, 2, 39, 40):
                sets = brute.drawn_sets(n, many, chance)
                self.assertEqual(write_table(sets), brute.written_table(sets))
                self.assertEqual(read_table(n, write_table(sets)), sets)

    def test_examples(self):
        self.assertEqual(write_table(()), "")
        self.assertEqual(write_table(((),)), "-")
        self.assertEqual(write_table(((0, 1), (), (10, 23), (0, 1))), "0 1\n-\n10 23\n0 1")
        self.assertEqual(read_table(24, "0 1\n-\n10 23\n0 1"), ((0, 1), (), (10, 23), (0, 1)))
        self.assertEqual(read_table(1, ""), ())
        self.assertEqual(read_table(1, "-\n-"), ((), ()))

    def test_40_lines_and_41(self):
        for line, chosen in (("-", ()), ("0", (0,)), ("0 1 2", (0, 1, 2))):
            for many in (1, 39, 40):
                self.assertEqual(read_table(3, "\n".join([line] * many)), (chosen,) * many)
                self.assertEqual(write_table((chosen,) * many), "\n".join([line] * many))
            self.refuse(read_table, 3, ["\n".join([line] * many) for many in (41, 42, 1000)])

    def test_texts_that_are_no_table(self):
        self.refuse(read_table, 3, ["\n", "\n0", "0\n", "0\n\n1", "-\n", "\n-", "0 1\n1 0", "0 0\n-", "0 3\n-", "-\n3",
                                    "0  1", "0 1 \n-", " 0 1\n-", "0 1\n -", "--", "- -", "0\n1\n", "{0 1}\n-",
                                    "0 1\n{1 2}", "0 1;1 2", "0 1\r\n-", "-\n0 -"])
        for n in (1, 2, 24):
            self.refuse(read_table, n, NO_TEXTS + LONG_TEXTS)

    def test_numbers_of_things_come_first(self):
        for n in NO_NUMBERS:
            for text in ("-", "", "0", "x", "1 0", "\n", "\n" * 50):
                self.assertRaises(OutOfRange, read_table, n, text)

    def test_what_is_no_table_is_not_written(self):
        for chosen in ((24,), (1, 0), (1, 1), (-1,), (HUGE,), tuple(range(25))):
            for sets in ((chosen,), ((0, 1), chosen), (chosen, ())):
                self.assertRaises(InvalidTable, write_table, sets)
        self.assertRaises(InvalidTable, write_table, ((),) * 41)
        self.assertRaises(InvalidTable, write_table, ((0, 1),) * 41)
