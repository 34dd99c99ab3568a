"""Which error comes first, for each function of the interface: its opening paragraphs, and points 1.1, 2.1, 2.6, 5.1.

Each function is passed every choice of good and bad values for its arguments.
"""

import itertools
import unittest

from interface import FUNCTIONS, listed, passed_to
from samples import HUGE
from unpartedrows.errors import (InvalidMeetings, InvalidOrder, InvalidTable, InvalidText, InvalidTree, OutOfRange,
                                 UnpartedError)

# These come in the sequence of the arguments, and ahead of all others.
AHEAD = (InvalidTable, InvalidOrder, InvalidTree, InvalidMeetings)

NO_SETS = [(4,), (1, 0), (2, 2), (-1,), (0, HUGE), (0, 1, 2, 3, 4)]
NO_TABLES = [(chosen,) for chosen in NO_SETS] + [((0, 1), (0, 4)), ((),) * 41]
NO_ORDERS = [(), (0, 1, 2), (0, 1, 2, 2), (1, 2, 3, 4), (-1, 0, 1, 2), (0, 1, 2, HUGE), tuple(range(25))]
NO_TREES = [(), -1, 1, ("all", (0, 1, 2, 3)), ("any", (0, 1, 2, 4)), ("row", (0, ("any", (1, 1)), 3)), ("any", (0,)),
            ("row", (("row", (0, 1)), 2, 3)), ("any", (0, 1, 2, 3), 4), ("any", tuple(range(25))),
            ("any", (0, 1, ("any", (2, HUGE))))]
NO_MEETINGS = [((1, 0),), ((0, 1), (0, 1)), ((0, 2), (0, 1)), ((2, 2),), ((-1, 0),), ((0, 4),), ((0,),), ((0, 1, 2),)]
NO_THING = [-1, 4, HUGE]

# For each argument what is bad there, and what is told of it; None where False is told or nothing.
BAD = {
    "chosen": (NO_SETS, InvalidTable),
    "things": (NO_SETS, InvalidTable),
    "sets": (NO_TABLES, InvalidTable),
    "order": (NO_ORDERS, InvalidOrder),
    "wanted": (NO_ORDERS, InvalidOrder),
    "first": (NO_ORDERS, InvalidOrder),
    "second": (NO_ORDERS, InvalidOrder),
    "tree": (NO_TREES, InvalidTree),
    "other": (NO_TREES + [("any", (0, 1, 2)), 0], InvalidTree),
    "pairs": (NO_MEETINGS, InvalidMeetings),
    "number": ([-1, 8, HUGE, -HUGE], OutOfRange),
    "a": (NO_THING, OutOfRange),
    "b": (NO_THING + [3], OutOfRange),
    "c": (NO_THING + [3], OutOfRange),
    "wishes": ([((0, 0),), ((0, 4),), ((-1, 0),), ((0,),), ((0, 1), (0, 1, 2))], OutOfRange),
    "turn": ([(), (0,), (1, 1), (2, 1), (-1, 2), (0, 4), (0, 1, 2), (0, HUGE)], OutOfRange),
    "value": ([(), ("three",), ("three", (0, 1), ()), ("four", (0, 1, 2), ((0,), (1,), (2,)))], None),
    "hours": ([(), ((0, 1),), ((1, 0),) * 4, ((0,), (1,), (2,), (3,))], None),
    "ring": ([(), (0,), (0, 0, 1, 2), (0, 1, 2, HUGE)], None),
    "persons": ([(), (0, 1), (0, 0, 1), (-1, 0, 4)], None),
    "ways": ([(), ((), (), ()), ((HUGE,), (-1,), (0,))], None),
    "person": ([-1, 4, HUGE], None),
    "three": ([(), (0, 1), (0, 0, 0), (-1, 4, HUGE)], None),
    "indexes": ([(), (-1,), (1, 0), (0, 0), (HUGE,)], None),
    "text": (["", "4", "{0 1", "0  1", "0 1 2 3 4\n", "9" * 300], InvalidText),
}
# Where something else is bad, or something else is told of it. These functions take 24 things, or any integers.
ANY_TREE = {"tree": ([(), -1, ("any", (0, -1)), ("all", (0, 1)), ("any", (5, 5)), ("row", (0, 1)), ("any", (0, 1), 2),
                      ("row", (7, 8, ("any", (9,))))], InvalidTree)}
BAD_FOR = {
    "things_of": ANY_TREE,
    "normal": ANY_TREE,
    "sets_of": ANY_TREE,
    "write_tree": ANY_TREE,
    "write_set": {"chosen": ([(24,), (1, 0), (2, 2), (-1,), (0, HUGE), tuple(range(25))], InvalidTable)},
    "write_table": {"sets": ([((24,),), ((1, 0),), ((),) * 41, ((), (-1,))], InvalidTable)},
    "write_pairs": {"pairs": ([((0, 24),), ((1, 0),), ((0, 1), (0, 1)), ((0,),), ((0, 1, 2),)], InvalidMeetings)},
    "read_table": {"text": (["4", "{0 1", "0  1", "0 1 2 3 4\n", "\n", "9" * 300], InvalidText)},
    "read_pairs": {"text": (["0-4", "1-0", "0-1\n", "x", "0-" + "9" * 300], InvalidMeetings)},
    "distance": {"other": (NO_ORDERS + [(0,), (0, 1, 2, 3, 4)], InvalidOrder)},
    # The order (0, 1, 2, 3) is one, but the tree does not tell it.
    "walk": {"first": (NO_ORDERS, InvalidOrder), "second": (NO_ORDERS, InvalidOrder)},
    "stands_around": {"order": (NO_ORDERS + [(1, 0, 2, 3)], InvalidOrder)},
}
# Values that are bad for one function alone, and of the right kind.
REFUSED = {
    "pruned": {"things": ([()], OutOfRange)},
    "walk": {"first": ([(0, 1, 2, 3)], OutOfRange), "second": ([(0, 1, 2, 3)], OutOfRange)},
    "greatest_choice": {"sets": ([((),) * 9], OutOfRange)},
}
NUMBERS = [0, -1, 25, HUGE]


def error_for_number(function, arguments):
    """What a number of things that is not 1 to 24 leads to."""
    if function.__name__ in ("check_things", "plain_tree", "read_tree", "read_set", "read_table"):
        return OutOfRange
    return BAD_FOR.get(function.__name__, {}).get(arguments[1], BAD[arguments[1]])[1]


def choices_for(function, arguments):
    """For each argument all values to pass, each beside the error that it leads to, or None."""
    good = passed_to(function, arguments)
    found = []
    for name in arguments:
        choices = [(good[name], None)]
        if name == "n":
            choices += [(n, error_for_number(function, arguments)) for n in NUMBERS]
        else:
            values, error = BAD_FOR.get(function.__name__, {}).get(name, BAD[name])
            # An order that is the first argument has as many things as it has.
            choices += [(value, error) for value in values
                        if (arguments[0], name, value) != ("order", "order", (0, 1, 2))]
            values, error = REFUSED.get(function.__name__, {}).get(name, ([], None))
            choices += [(value, error) for value in values]
        found.append(choices)
    return found


def expected(errors):
    """The error that comes of these, in the sequence of the arguments, or None."""
    errors = [error for error in errors if error is not None]
    ahead = [error for error in errors if error in AHEAD]
    return (ahead + errors + [None])[0]


class Refusals(unittest.TestCase):
    def test_each_choice_of_good_and_bad_arguments(self):
        for _, function, arguments in listed():
            with self.subTest(function.__name__):
                for choice in itertools.product(*choices_for(function, arguments)):
                    error = expected([error for _, error in choice])
                    values = [value for value, _ in choice]
                    if error is None:
                        function(*values)
                        continue
                    with self.assertRaises(UnpartedError) as caught:
                        function(*values)
                    self.assertIs(type(caught.exception), error, values)

    def test_each_argument_has_bad_values(self):
        for functions in FUNCTIONS.values():
            for arguments in functions.values():
                for name in arguments:
                    self.assertTrue(name == "n" or len(BAD[name][0]) > 0)

    def test_messages_are_strings(self):
        for function, arguments in [(function, arguments) for _, function, arguments in listed()]:
            for choice in choices_for(function, arguments)[0][1:]:
                values = [choice[0]] + list(passed_to(function, arguments).values())[1:]
                if choice[1] is not None:
                    with self.assertRaises(choice[1]) as caught:
                        function(*values)
                    self.assertTrue(str(caught.exception))
                    self.assertTrue(all(" " <= sign <= "~" and sign != "%" for sign in str(caught.exception)))
