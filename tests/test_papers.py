"""Point 3.2, and the heading unpartedrows/papers.py."""

import itertools
import random
import unittest

import brute
from unpartedrows.errors import InvalidTable
from unpartedrows.papers import is_paper, paper_for
from unpartedrows.reducing import tree_of

HUGE = 10 ** 6000
NO_NUMBERS = (0, 25, -1, 26, 100, HUGE, -HUGE)
BAD_SETS = ((3,), (1, 0), (1, 1), (-1,), (0, 1, 2, 3), (HUGE,))
PAIRS_24 = tuple((thing, thing + 1) for thing in range(23))

# The chains of this table: a and b by 0, a and c by 1 and 2, b and c by 3, 4 and 5; 6 to 9 lead astray.
TABLE = ((0, 1), (0, 3), (2, 3), (1, 4), (4, 5), (2, 5), (), (6,), (0, 1, 2, 3, 4, 5, 6), (0, 2))
CHAINS = ((0,), (1, 2), (3, 4, 5))
PAPER = ("three", (0, 1, 2), CHAINS)


def with_chain(at, chain):
    """The paper with one of its chains changed."""
    return ("three", (0, 1, 2), CHAINS[:at] + (chain,) + CHAINS[at + 1:])


class Held(unittest.TestCase):
    def hold(self, n, sets, some_order_fits):
        """There is a paper exactly if no order fits, and it keeps the conditions of point 3.2."""
        paper = paper_for(n, sets)
        if some_order_fits:
            self.assertIsNone(paper)
            return
        self.assertIs(type(paper), tuple)
        self.assertTrue(brute.is_paper(sets, paper))
        self.assertIs(is_paper(n, sets, paper), True)


class PaperFor(Held):
    def test_all_tables_of_three_things(self):
        for many in range(4):
            for sets in itertools.product(brute.sets_below(3), repeat=many):
                self.hold(3, sets, brute.fitting(3, sets))

    def test_all_tables_of_four_things(self):
        kept = [chosen for chosen in brute.sets_below(4) if 1 < len(chosen) < 4]
        for many in range(len(kept) + 1):
            for sets in itertools.combinations(kept, many):
                self.hold(4, sets, brute.fitting(4, sets))

    def test_tables_of_up_to_four_sets_of_five_things(self):
        kept = [chosen for chosen in brute.sets_below(5) if 1 < len(chosen) < 5]
        fitting = {chosen: set(brute.fitting(5, (chosen,))) for chosen in kept}
        for many in range(1, 5):
            for sets in itertools.combinations(kept, many):
                self.hold(5, sets, set.intersection(*[fitting[chosen] for chosen in sets]))

    def test_some_tables_of_six_things(self):
        chance = random.Random(17)
        every = brute.sets_below(6)
        for _ in range(400):
            sets = tuple(chance.choice(every) for _ in range(chance.randint(0, 8)))
            self.hold(6, sets, brute.fitting(6, sets))

    def test_some_tables_of_small_sets_of_six_things(self):
        chance = random.Random(18)
        small = [chosen for chosen in brute.sets_below(6) if len(chosen) < 4]
        for _ in range(400):
            sets = tuple(chance.choice(small) for _ in range(chance.randint(2, 5)))
            self.hold(6, sets, brute.fitting(6, sets))

    def test_examples(self):
        self.assertIsNone(paper_for(1, ()))
        self.assertIsNone(paper_for(2, ((0, 1),) * 3))
        self.assertIsNone(paper_for(3, ((0, 1), (1, 2))))
        self.assertEqual(paper_for(3, ((0, 1), (1, 2), (0, 2))), ("three", (0, 1, 2), ((0,), (2,), (1,))))
        self.assertEqual(paper_for(3, ((), (0, 2), (1,), (0, 1, 2), (1, 2), (0, 1))),
                         ("three", (0, 1, 2), ((5,), (1,), (4,))))

    def test_the_least_tables_that_no_order_fits(self):
        # A ring of pairs, single tables, and rows of pairs with one set that lacks their ends.
        for many in range(3, 25):
            ring = tuple((thing, thing + 1) for thing in range(many - 1)) + ((0, many - 1),)
            self.hold(many, ring, False)
            self.hold(many, ring[1:], True)
        self.hold(7, ((0, 1), (2, 3), (4, 5), (1, 3, 5, 6)), False)
        self.hold(6, ((0, 1), (2, 3), (4, 5), (0, 2, 4)), False)
        self.hold(4, ((0, 1), (0, 2), (0, 3)), False)
        for many in range(4, 24):
            row = tuple((thing, thing + 1) for thing in range(many - 2))
            inner = tuple(range(1, many - 2)) + (many - 1,)
            self.hold(many, row + (inner,), False)
            self.hold(many, row[1:] + (inner,), True)

    def test_sets_that_change_nothing(self):
        for n, sets in ((3, ((0, 1), (1, 2))), (3, ((0, 1), (1, 2), (0, 2))), (4, ((0, 1), (0, 2), (0, 3)))):
            idle = ((), tuple(range(n)), (0,), (n - 1,))
            fits = bool(brute.fitting(n, sets))
            for table in (idle + sets, sets + idle, sets + sets, sets[::-1], idle * 9 + sets, sets + idle + sets):
                self.hold(n, table, fits)
        for n in range(1, 25):
            for sets in ((), ((),), ((), tuple(range(n)), (0,), (n - 1,)) * 10):
                self.assertIsNone(paper_for(n, sets))

    def test_the_greatest_tables(self):
        triples = tuple((thing, thing + 1, thing + 2) for thing in range(17))
        self.hold(24, PAIRS_24 + triples, True)
        self.hold(24, PAIRS_24 + ((0, 23),) + triples[:16], False)
        self.hold(24, PAIRS_24 + triples[:16] + ((4, 9),), False)
        self.hold(24, ((0, 1),) * 40, True)
        self.hold(24, ((0, 1),) * 38 + ((1, 2), (0, 2)), False)
        self.hold(24, tuple(tuple(range(many)) for many in range(25)), True)

    def test_some_of_the_greatest_tables(self):
        chance = random.Random(19)
        for _ in range(60):
            order = chance.sample(range(24), 24)
            ends = [sorted(chance.sample(range(25), 2)) for _ in range(40)]
            sets = [tuple(sorted(order[low:high])) for low, high in ends]
            self.hold(24, tuple(sets), True)
            sets[chance.randrange(40)] = tuple(sorted(chance.sample(range(24), chance.randint(2, 4))))
            self.hold(24, tuple(sets), tree_of(24, tuple(sets)) is not None)


class IsPaper(unittest.TestCase):
    def refuse(self, value):
        self.assertIs(is_paper(7, TABLE, value), False)

    def test_a_paper(self):
        self.assertIs(is_paper(7, TABLE, PAPER), True)
        self.assertIs(is_paper(7, TABLE + ((0, 6),) * 30, PAPER), True)
        self.assertEqual(brute.fitting(7, TABLE), [])

    def test_another_word(self):
        for word in ("", "Three", "three ", "thre", "threee", "any", "row", "\n", "ring", "tree"):
            self.refuse((word, (0, 1, 2), CHAINS))

    def test_tuples_of_other_lengths(self):
        for value in ((), ("three",), ("three", (0, 1, 2)), PAPER + (0,), PAPER + (CHAINS,), PAPER + ("three",),
                      ("three", (0, 1, 2), CHAINS, (0, 1, 2))):
            self.refuse(value)
        for things in ((), (0,), (0, 1), (0, 1, 2, 3), (0, 1, 2, 2), (0, 1, 2) * 2):
            self.refuse(("three", things, CHAINS))
        for chains in ((), CHAINS[:1], CHAINS[:2], CHAINS[1:], CHAINS + ((0,),), CHAINS + ((),), CHAINS * 2):
            self.refuse(("three", (0, 1, 2), chains))

    def test_things_that_do_not_ascend(self):
        """Each of these has the chains that its things would need."""
        by_pair = {frozenset((0, 1)): CHAINS[0], frozenset((0, 2)): CHAINS[1], frozenset((1, 2)): CHAINS[2]}
        for a, b, c in itertools.permutations((0, 1, 2)):
            chains = []
            for first, last in ((a, b), (a, c), (b, c)):
                chain = by_pair[frozenset((first, last))]
                chains.append(chain if first < last else chain[::-1])
            self.assertIs(is_paper(7, TABLE, ("three", (a, b, c), tuple(chains))), (a, b, c) == (0, 1, 2))

    def test_things_that_stand_twice_or_are_none(self):
        for things in ((0, 0, 1), (0, 1, 1), (0, 0, 0), (0, 0, 2), (-1, 0, 1), (0, 1, 7), (0, 1, 24), (0, 1, HUGE),
                       (-HUGE, 0, 1), (0, 1, 3), (3, 4, 5), (0, 1, 6), (7, 8, 9)):
            self.refuse(("three", things, CHAINS))
        sets = ((0, 1), (0,), (1,))
        for things, chains in (((0, 0, 1), ((1,), (1,), (1,))), ((0, 0, 1), ((1,), (0,), (0,))),
                               ((0, 1, 1), ((0,), (0,), (2,))), ((0, 0, 0), ((1,), (1,), (1,)))):
            self.assertIs(is_paper(2, sets, ("three", things, chains)), False)

    def test_an_empty_chain(self):
        for at in range(3):
            self.refuse(with_chain(at, ()))
        self.refuse(("three", (0, 1, 2), ((), (), ())))

    def test_indexes_that_are_none(self):
        self.refuse(with_chain(0, (-len(TABLE),)))
        self.refuse(with_chain(1, (1, 2 - len(TABLE))))
        self.refuse(with_chain(2, (3 - len(TABLE), 4, 5)))
        for at in range(3):
            for index in (-1, len(TABLE), len(TABLE) + 1, 40, HUGE, -HUGE):
                for place in range(len(CHAINS[at])):
                    self.refuse(with_chain(at, CHAINS[at][:place] + (index,) + CHAINS[at][place + 1:]))
                for place in range(len(CHAINS[at]) + 1):
                    self.refuse(with_chain(at, CHAINS[at][:place] + (index,) + CHAINS[at][place:]))
        self.assertIs(is_paper(7, (), PAPER), False)

    def test_a_chain_that_begins_or_ends_elsewhere(self):
        self.refuse(with_chain(0, (1,)))
        self.refuse(with_chain(0, (3,)))
        self.refuse(with_chain(0, (0, 1)))
        self.refuse(with_chain(0, (3, 0, 1)))
        self.refuse(with_chain(1, (1,)))
        self.refuse(with_chain(1, (2,)))
        self.refuse(with_chain(2, (3, 4)))
        self.refuse(with_chain(2, (4, 5)))
        for at in (1, 2):
            self.refuse(with_chain(at, CHAINS[at][::-1]))

    def test_a_chain_that_holds_the_third_thing(self):
        self.refuse(with_chain(0, (8,)))
        self.refuse(with_chain(0, (1, 2, 9, 0)))
        self.refuse(with_chain(0, (0, 8, 0)))
        self.refuse(with_chain(0, (9, 0)))
        self.refuse(with_chain(1, (0, 9)))
        self.refuse(with_chain(1, (1, 8, 2)))
        self.refuse(with_chain(2, (0, 9, 5)))
        self.refuse(with_chain(2, (3, 0, 9)))

    def test_neighbors_without_a_common_thing(self):
        self.refuse(with_chain(2, (3, 5)))
        self.refuse(with_chain(0, (0, 6, 0)))
        self.refuse(with_chain(0, (0, 7, 0)))
        self.refuse(with_chain(0, (0, 4, 3)))
        self.refuse(with_chain(1, (1, 7, 2)))

    def test_other_chains_that_are_well(self):
        for at, chain in ((0, (0, 0)), (0, (0, 0, 0, 0)), (0, (1, 0)), (0, (0, 3)), (0, (1, 0, 3)), (1, (9,)),
                          (1, (9, 2)), (1, (1, 1, 2)), (1, (1, 2, 1, 2)), (2, (3, 4, 4, 5)), (2, (3,) * 50 + (4, 5)),
                          (0, (0, 1, 0))):
            self.assertIs(is_paper(7, TABLE, with_chain(at, chain)), True)

    def test_against_the_plain_words(self):
        chance = random.Random(20)
        found = 0
        for _ in range(6000):
            n = chance.randint(3, 5)
            every = [chosen for chosen in brute.sets_below(n) if len(chosen) < n]
            sets = tuple(chance.choice(every) for _ in range(chance.randint(3, 6)))
            paper = paper_for(n, sets)
            if paper is None:
                continue
            _, things, chains = paper
            changed = list(chains)
            at = chance.randrange(3)
            chain = list(changed[at])
            for _ in range(chance.randint(0, 2)):
                chain.insert(chance.randint(0, len(chain)), chance.randint(-1, len(sets)))
            if chance.random() < 0.4:
                del chain[chance.randrange(len(chain))]
            changed[at] = tuple(chain)
            if chance.random() < 0.2:
                things = tuple(chance.randint(-1, n) for _ in range(3))
            value = ("three", things, tuple(changed))
            expected = brute.is_paper(sets, value)
            found += expected
            self.assertIs(is_paper(n, sets, value), expected)
        self.assertGreater(found, 300)

    def test_all_values_with_short_chains(self):
        sets = ((0, 1), (1, 2), (0, 2), (0, 1, 3))
        chains = [chain for many in range(3) for chain in itertools.product(range(4), repeat=many)]
        for things in itertools.product(range(4), repeat=3):
            for chosen in itertools.product(chains[:9], repeat=3):
                value = ("three", things, chosen)
                if is_paper(4, sets, value) is not brute.is_paper(sets, value):
                    self.fail(value)

    def test_no_value_is_a_paper_where_an_order_fits(self):
        for sets in (((0, 1), (1, 2)), ((0, 1), (0, 1, 2)), ((0, 1), (1, 2), (0, 1, 2))):
            chains = [chain for many in range(1, 3) for chain in itertools.product(range(len(sets)), repeat=many)]
            for chosen in itertools.product(chains, repeat=3):
                self.assertIs(is_paper(3, sets, ("three", (0, 1, 2), chosen)), False)

    def test_the_greatest(self):
        triples = tuple((thing, thing + 1, thing + 2) for thing in range(16))
        ring = PAIRS_24 + ((0, 23),) + triples
        paper = ("three", (0, 1, 23), ((0,), (23,), tuple(range(1, 23))))
        self.assertIs(is_paper(24, ring, paper), True)
        self.assertIs(is_paper(24, ring, ("three", (0, 1, 23), ((0,), (23,), tuple(range(1, 22))))), False)
        self.assertIs(is_paper(24, ring, ("three", (0, 1, 23), ((0,), (23,), (1, 24, *range(4, 23))))), False)
        self.assertIs(is_paper(24, ring, ("three", (0, 1, 23), ((0,), (23,), (1, 26, *range(4, 23))))), True)
        self.assertIs(is_paper(24, ring, ("three", (0, 1, 24), ((0,), (23,), tuple(range(1, 23))))), False)


class WhichErrorComesFirst(unittest.TestCase):
    VALUES = (("three", (0, 1, 2), ((0,), (2,), (1,))), (), ("any", (), ()), ("three", (0, 1, 2), ((9,), (2,), (1,))))

    def test_a_table_must_be_one_of_so_many_things(self):
        for chosen in BAD_SETS:
            for sets in ((chosen,), ((0, 1), (1, 2), (0, 2), chosen), (chosen, (0, 1), (1, 2), (0, 2))):
                with self.assertRaises(InvalidTable):
                    paper_for(3, sets)
                for value in self.VALUES:
                    with self.assertRaises(InvalidTable):
                        is_paper(3, sets, value)

    def test_more_than_40_sets(self):
        for sets in (((0, 1),) * 41, ((),) * 41, ((0, 1), (1, 2), (0, 2)) * 14):
            with self.assertRaises(InvalidTable):
                paper_for(3, sets)
            for value in self.VALUES:
                with self.assertRaises(InvalidTable):
                    is_paper(3, sets, value)

    def test_no_table_for_other_numbers_of_things(self):
        for n in NO_NUMBERS:
            for sets in ((), ((),), ((0,),), ((0, 1), (1, 2), (0, 2))):
                with self.assertRaises(InvalidTable):
                    paper_for(n, sets)
                for value in self.VALUES:
                    with self.assertRaises(InvalidTable):
                        is_paper(n, sets, value)
