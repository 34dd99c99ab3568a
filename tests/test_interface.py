"""Where each function and class of the interface stands, how its arguments are called, and points 0.2 and 0.3."""

import inspect
import unittest

import unpartedrows
from interface import ARGUMENTS, CLASSES, class_of, listed, passed_to

# The words of the values that functions tell, and the signs of written forms.
WORDS = ("any", "row", "three", "hours", "ring", "equal", "claw", "order", "tree")
SIGNS = "0123456789 {}[]-\n"


def sameness(value):
    """The value with the kinds of all its parts, which == alone does not tell (1 == True)."""
    if isinstance(value, (tuple, list)):
        return type(value), [sameness(part) for part in value]
    return type(value), value


def pieces(value):
    """All integers, strings and other plain values in a value; None for one of a kind that none may have."""
    if type(value) is tuple:
        return [piece for part in value for piece in pieces(part)]
    return [value if type(value) in (int, bool, str, type(None)) else value.__class__]


class Interface(unittest.TestCase):
    def test_each_function_is_defined_where_it_is_listed(self):
        for module, function, _ in listed():
            with self.subTest(function.__name__):
                self.assertTrue(inspect.isfunction(function))
                self.assertEqual(function.__module__, "unpartedrows." + module)

    def test_arguments_have_their_names_and_no_defaults(self):
        for _, function, arguments in listed():
            with self.subTest(function.__name__):
                parameters = inspect.signature(function).parameters
                self.assertEqual(list(parameters), arguments)
                for parameter in parameters.values():
                    self.assertIs(parameter.default, inspect.Parameter.empty)

    def test_arguments_may_be_passed_by_name(self):
        for _, function, arguments in listed():
            with self.subTest(function.__name__):
                by_name = function(**passed_to(function, arguments))
                by_place = function(*passed_to(function, arguments).values())
                self.assertEqual(sameness(by_name), sameness(by_place))

    def test_package_has_a_docstring(self):
        self.assertIn("Unpartedrows", unpartedrows.__doc__)


class Classes(unittest.TestCase):
    def test_each_class_is_defined_where_it_is_listed(self):
        for name, (module, _, _) in CLASSES.items():
            self.assertTrue(inspect.isclass(class_of(name)))
            self.assertEqual(class_of(name).__module__, "unpartedrows." + module)

    def test_each_method_is_defined_in_the_class_itself(self):
        for name, (_, _, methods) in CLASSES.items():
            for method, arguments in methods.items():
                with self.subTest(name + "." + method):
                    found = vars(class_of(name))[method]
                    self.assertTrue(inspect.isfunction(found))
                    parameters = inspect.signature(found).parameters
                    self.assertEqual(list(parameters)[1:], arguments)
                    for parameter in parameters.values():
                        self.assertIs(parameter.default, inspect.Parameter.empty)

    def test_attributes_are_set_when_the_object_is_created(self):
        for name, (_, attributes, _) in CLASSES.items():
            made = class_of(name)(n=7)
            for attribute in attributes:
                self.assertEqual(sameness(vars(made)[attribute]), (int, 7))

    def test_arguments_may_be_passed_by_name(self):
        book = class_of("Book")(n=4)
        book.add(chosen=(0, 1))
        book.put(index=0, chosen=(0, 2))
        self.assertIs(book.fits(order=(0, 2, 1, 3)), True)
        book.drop(index=0)
        meetings = class_of("Meetings")(n=4)
        self.assertIs(meetings.meet(i=1, j=2), True)
        self.assertIs(meetings.forget(i=1, j=2), True)

    def test_values_consist_of_tuples_integers_strings_and_plain_values(self):
        book = class_of("Book")(4)
        meetings = class_of("Meetings")(4)
        acts = [book.add(chosen) for chosen in ARGUMENTS["sets"]]
        acts += [meetings.meet(*pair) for pair in ARGUMENTS["pairs"]]
        told = [book.undo(), book.redo(), book.sets(), book.tree(), book.answer(), book.fits((0, 1, 2, 3)),
                meetings.undo(), meetings.redo(), meetings.pairs(), meetings.visits(), meetings.equal_visits()]
        for value in acts + told:
            for piece in pieces(value):
                self.assertIn(type(piece), (int, bool, str, type(None)))
                self.assertTrue(type(piece) is not str or piece in WORDS)


class AllFunctions(unittest.TestCase):
    """Point 0.2."""

    def test_same_arguments_give_the_same_value(self):
        for _, function, arguments in listed():
            with self.subTest(function.__name__):
                passed = list(passed_to(function, arguments).values())
                self.assertEqual(sameness(function(*passed)), sameness(function(*passed)))

    def test_no_argument_is_modified(self):
        for _, function, arguments in listed():
            with self.subTest(function.__name__):
                passed = list(passed_to(function, arguments).values())
                before = sameness(passed)
                function(*passed)
                self.assertEqual(sameness(passed), before)

    def test_values_consist_of_tuples_integers_strings_and_plain_values(self):
        for _, function, arguments in listed():
            with self.subTest(function.__name__):
                for piece in pieces(function(*passed_to(function, arguments).values())):
                    self.assertIn(type(piece), (int, bool, str, type(None)))
                    if isinstance(piece, str):
                        self.assertTrue(piece in WORDS or set(piece) <= set(SIGNS))
