"""Where each function of the interface stands, how its arguments are called, and points 0.2 and 0.3."""

import importlib
import inspect
import unittest

import unpartedrows

FUNCTIONS = {
    "tables": {
        "check_things": ["n"],
        "check_set": ["n", "chosen"],
        "check_table": ["n", "sets"],
        "check_order": ["n", "order"],
        "stands_together": ["order", "chosen"],
        "first_parted": ["order", "sets"],
        "stretch_of": ["order", "chosen"],
        "spanned": ["order", "chosen"],
    },
    "trees": {
        "check_tree": ["n", "tree"],
        "things_of": ["tree"],
        "normal": ["tree"],
        "plain_tree": ["n"],
        "sets_of": ["tree"],
    },
    "telling": {
        "tells": ["tree", "order"],
        "count": ["tree"],
        "order_at": ["tree", "number"],
        "number_of": ["tree", "order"],
        "least_order": ["tree"],
    },
    "reducing": {
        "reduced": ["tree", "chosen"],
        "tree_of": ["n", "sets"],
        "common": ["tree", "other"],
    },
    "papers": {
        "paper_for": ["n", "sets"],
        "is_paper": ["n", "sets", "value"],
    },
    "around": {
        "stands_around": ["order", "chosen"],
        "opened_table": ["n", "sets"],
        "ring_tree": ["n", "sets"],
        "ring_count": ["n", "sets"],
        "ring_paper": ["n", "sets"],
    },
    "graphs": {
        "check_meetings": ["n", "pairs"],
    },
    "visits": {
        "explains": ["n", "pairs", "hours"],
        "visits": ["n", "pairs"],
        "is_shut_ring": ["n", "pairs", "ring"],
        "avoid": ["n", "pairs", "persons", "ways"],
    },
    "equals": {
        "equal_visits": ["n", "pairs"],
        "is_claw": ["n", "pairs", "person", "three"],
    },
    "questions": {
        "can_neighbor": ["tree", "a", "b"],
        "can_be_first": ["tree", "a"],
        "can_be_between": ["tree", "a", "b", "c"],
        "is_always_between": ["tree", "a", "b", "c"],
        "is_always_together": ["tree", "chosen"],
    },
    "shares": {
        "count_together": ["tree", "chosen"],
        "count_neighbors": ["tree", "a", "b"],
        "count_first": ["tree", "a"],
        "count_between": ["tree", "a", "b", "c"],
    },
    "nearest": {
        "distance": ["order", "other"],
        "nearest": ["tree", "wanted"],
    },
    "wishes": {
        "with_wishes": ["tree", "wishes"],
        "is_wish_ring": ["tree", "wishes", "indexes"],
        "count_with_wishes": ["tree", "wishes"],
    },
}

TREE = ("row", (3, ("any", (2, 0)), 1))
ORDER = (0, 2, 3, 1)
SETS = ((0, 1), (), (1, 2, 3))
ARGUMENTS = {
    "n": 4, "chosen": (0, 2), "sets": SETS, "order": ORDER, "tree": TREE, "number": 1,
    "other": ("any", (3, 2, 1, 0)), "value": ("three", (0, 1, 2), ((0,), (1,), (2,))),
    "pairs": ((0, 1), (0, 2), (0, 3)), "hours": ((0, 9), (1, 2), (4, 5), (7, 8)), "ring": (0, 1, 2, 3),
    "persons": (1, 2, 3), "ways": ((1, 0, 2), (1, 0, 3), (2, 0, 3)), "person": 0, "three": (3, 1, 2),
    "a": 3, "b": 2, "c": 1, "wanted": (3, 1, 2, 0), "wishes": ((3, 1), (2, 0), (3, 2), (1, 0)), "indexes": (1, 2),
}
# Other kinds of arguments under a name that stands above.
OTHERS = {"distance": {"other": (3, 1, 2, 0)}}


def passed_to(function, arguments):
    """What the tests pass to the function, by the names of its arguments."""
    return {name: OTHERS.get(function.__name__, {}).get(name, ARGUMENTS[name]) for name in arguments}


def listed():
    """The name of the module, the function itself and its arguments, for each function of the interface."""
    for module, functions in FUNCTIONS.items():
        found = importlib.import_module("unpartedrows." + module)
        for name, arguments in functions.items():
            yield module, getattr(found, name), arguments


def sameness(value):
    """The value with the kinds of all its parts, which == alone does not tell (1 == True)."""
    if isinstance(value, (tuple, list)):
        return type(value), [sameness(part) for part in value]
    return type(value), value


def pieces(value):
    """All integers, strings and other plain values in a value; None for one of a kind that none may have."""
    if type(value) is tuple:
        return [piece for part in value for piece in pieces(part)]
    return [value if type(value) in (int, bool, str, type(None)) else value.__class__]


class Interface(unittest.TestCase):
    def test_each_function_is_defined_where_it_is_listed(self):
        for module, function, _ in listed():
            with self.subTest(function.__name__):
                self.assertTrue(inspect.isfunction(function))
                self.assertEqual(function.__module__, "unpartedrows." + module)

    def test_arguments_have_their_names_and_no_defaults(self):
        for _, function, arguments in listed():
            with self.subTest(function.__name__):
                parameters = inspect.signature(function).parameters
                self.assertEqual(list(parameters), arguments)
                for parameter in parameters.values():
                    self.assertIs(parameter.default, inspect.Parameter.empty)

    def test_arguments_may_be_passed_by_name(self):
        for _, function, arguments in listed():
            with self.subTest(function.__name__):
                by_name = function(**passed_to(function, arguments))
                by_place = function(*passed_to(function, arguments).values())
                self.assertEqual(sameness(by_name), sameness(by_place))

    def test_package_has_a_docstring(self):
        self.assertIn("Unpartedrows", unpartedrows.__doc__)


class AllFunctions(unittest.TestCase):
    """Point 0.2."""

    def test_same_arguments_give_the_same_value(self):
        for _, function, arguments in listed():
            with self.subTest(function.__name__):
                passed = list(passed_to(function, arguments).values())
                self.assertEqual(sameness(function(*passed)), sameness(function(*passed)))

    def test_no_argument_is_modified(self):
        for _, function, arguments in listed():
            with self.subTest(function.__name__):
                passed = list(passed_to(function, arguments).values())
                before = sameness(passed)
                function(*passed)
                self.assertEqual(sameness(passed), before)

    def test_values_consist_of_tuples_integers_strings_and_plain_values(self):
        for _, function, arguments in listed():
            with self.subTest(function.__name__):
                for piece in pieces(function(*passed_to(function, arguments).values())):
                    self.assertIn(type(piece), (int, bool, str, type(None)))
                    if isinstance(piece, str):
                        self.assertIn(piece, ("any", "row", "three", "hours", "ring", "equal", "claw", "order"))
