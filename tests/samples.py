"""Values that several test files pass: the greatest trees and meetings, and values that are none."""

from itertools import combinations

import brute

HUGE = 10 ** 6000
NO_NUMBERS = (0, 25, -1, 26, 100, HUGE, -HUGE)

ALL_24 = ("any", tuple(range(24))[::-1])
ROW_24 = ("row", tuple(range(24))[::-1])
MIXED_24 = ("row", (("any", tuple(range(8, 24))), ("row", (7, 5, 6)), ("any", (("row", (4, 2, 3)), 1, 0))))
GREATEST = (ALL_24, ROW_24, MIXED_24, brute.deep_any(24), brute.deep_rows(23))

# The greatest trees without an "any" of more than 8 parts.
BLOCKS_8 = ("any", tuple(("any", (low + 1, low, low + 2)) for low in range(0, 24, 3)))
ROWS_8 = ("any", tuple(("row", (low, low + 8, low + 16)) for low in range(8)))
NESTED_8 = ("any", (*range(7), ("any", (*range(7, 14), ("any", tuple(range(14, 22)))))))
NARROW = (BLOCKS_8, ROWS_8, NESTED_8, ROW_24, brute.deep_any(24), brute.deep_rows(23))

NINE = ("any", tuple(range(9)))
TOO_WIDE = (
    NINE,
    ALL_24,
    ("any", (9, NINE)),
    ("row", (10, NINE, 9)),
    ("row", (9, 10, NINE)),
    ("any", (9, ("row", (10, ("any", (11, NINE)), 12)))),
    ("any", (*range(9, 16), NINE)),
    ("any", (("any", tuple(range(9, 17))), NINE)),
    ("any", (*range(8), ("row", (8, 9, 10)))),
)

# Trees over three things, and what is none for them.
FORMS = (("any", (2, 1, 0)), ("row", (1, 2, 0)), ("any", (0, ("any", (1, 2)))))
BAD_TREES = (1, -1, HUGE, ("any", (0, 2)), ("any", (0, 0)), ("any", (0,)), ("row", (0, 1)), ("all", (0, 1)), (),
             ("any", (0, 1), 2), ("any", tuple(range(25))), ("any", (0, ("any", (1, 3)))),
             ("any", tuple(range(1, 10))), ("any", (NINE, 8)), ("row", (NINE, 10)))
BAD_SETS = ((3,), (1, 0), (1, 1), (-1,), (0, 1, 2, 3), (HUGE,))
BAD_ORDERS = ((), (0,), (0, 1), (0, 1, 2, 3), (0, 1, 1), (1, 2, 3), (-1, 0, 1), (0, 1, HUGE), tuple(range(25)))

PAIRS_24 = tuple(combinations(range(24), 2))
LINE_24 = tuple((person, person + 1) for person in range(23))
RING_24 = tuple(sorted(LINE_24 + ((0, 23),)))
# Three arms of two persons each from the person 0.
ARMS = ((0, 1), (0, 3), (0, 5), (1, 2), (3, 4), (5, 6))
# Three persons who all met, and for any two of them one more who met these two.
SUN = ((0, 1), (0, 2), (0, 3), (0, 4), (1, 2), (1, 3), (1, 5), (2, 4), (2, 5))
# What are no meetings of four persons.
BAD_PAIRS = (((1, 0),), ((0, 1), (0, 1)), ((0, 2), (0, 1)), ((0, 0),), ((-1, 0),), ((0, 4),), ((0,),), ((0, 1, 2),),
             ((),), ((0, HUGE),))
