"""The interface of DOC.md, name by name, and values to pass to each function."""

import importlib

FUNCTIONS = {
    "tables": {
        "check_things": ["n"],
        "check_set": ["n", "chosen"],
        "check_table": ["n", "sets"],
        "check_order": ["n", "order"],
        "stands_together": ["order", "chosen"],
        "first_parted": ["order", "sets"],
        "stretch_of": ["order", "chosen"],
        "spanned": ["order", "chosen"],
    },
    "trees": {
        "check_tree": ["n", "tree"],
        "things_of": ["tree"],
        "normal": ["tree"],
        "plain_tree": ["n"],
        "sets_of": ["tree"],
    },
    "telling": {
        "tells": ["tree", "order"],
        "count": ["tree"],
        "order_at": ["tree", "number"],
        "number_of": ["tree", "order"],
        "least_order": ["tree"],
    },
    "reducing": {
        "reduced": ["tree", "chosen"],
        "tree_of": ["n", "sets"],
        "common": ["tree", "other"],
    },
    "papers": {
        "paper_for": ["n", "sets"],
        "is_paper": ["n", "sets", "value"],
    },
    "around": {
        "stands_around": ["order", "chosen"],
        "opened_table": ["n", "sets"],
        "ring_tree": ["n", "sets"],
        "ring_count": ["n", "sets"],
        "ring_paper": ["n", "sets"],
    },
    "graphs": {
        "check_meetings": ["n", "pairs"],
    },
    "visits": {
        "explains": ["n", "pairs", "hours"],
        "visits": ["n", "pairs"],
        "is_shut_ring": ["n", "pairs", "ring"],
        "avoid": ["n", "pairs", "persons", "ways"],
    },
    "equals": {
        "equal_visits": ["n", "pairs"],
        "is_claw": ["n", "pairs", "person", "three"],
    },
    "questions": {
        "can_neighbor": ["tree", "a", "b"],
        "can_be_first": ["tree", "a"],
        "can_be_between": ["tree", "a", "b", "c"],
        "is_always_between": ["tree", "a", "b", "c"],
        "is_always_together": ["tree", "chosen"],
    },
    "shares": {
        "count_together": ["tree", "chosen"],
        "count_neighbors": ["tree", "a", "b"],
        "count_first": ["tree", "a"],
        "count_between": ["tree", "a", "b", "c"],
    },
    "nearest": {
        "distance": ["order", "other"],
        "nearest": ["tree", "wanted"],
    },
    "wishes": {
        "with_wishes": ["tree", "wishes"],
        "is_wish_ring": ["tree", "wishes", "indexes"],
        "count_with_wishes": ["tree", "wishes"],
    },
    "pruning": {
        "pruned": ["tree", "things"],
        "gaps": ["order", "sets"],
    },
    "choosing": {
        "greatest_choice": ["n", "sets"],
    },
    "nested": {
        "first_crossing": ["n", "sets"],
        "holders": ["n", "sets"],
    },
    "knots": {
        "knot_of": ["n", "sets"],
        "is_knot": ["n", "sets", "things", "indexes"],
    },
    "walks": {
        "do_turn": ["order", "turn"],
        "walk": ["tree", "first", "second"],
    },
    "text": {
        "write_tree": ["tree"],
        "write_set": ["chosen"],
        "write_table": ["sets"],
        "read_tree": ["n", "text"],
        "read_set": ["n", "text"],
        "read_table": ["n", "text"],
    },
    "meetings": {
        "write_pairs": ["pairs"],
        "read_pairs": ["n", "text"],
    },
}

# The file, the attributes, and the methods with the names of their arguments, of each class.
CLASSES = {
    "Book": ("book", ["n"], {
        "__init__": ["n"],
        "add": ["chosen"],
        "drop": ["index"],
        "put": ["index", "chosen"],
        "undo": [],
        "redo": [],
        "sets": [],
        "tree": [],
        "answer": [],
        "fits": ["order"],
    }),
    "Meetings": ("meetings", [], {
        "__init__": ["n"],
        "meet": ["i", "j"],
        "forget": ["i", "j"],
        "undo": [],
        "redo": [],
        "pairs": [],
        "visits": [],
        "equal_visits": [],
    }),
}

TREE = ("row", (3, ("any", (2, 0)), 1))
ORDER = (0, 2, 3, 1)
SETS = ((0, 1), (), (1, 2, 3))
ARGUMENTS = {
    "n": 4, "chosen": (0, 2), "sets": SETS, "order": ORDER, "tree": TREE, "number": 1,
    "other": ("any", (3, 2, 1, 0)), "value": ("three", (0, 1, 2), ((0,), (1,), (2,))),
    "pairs": ((0, 1), (0, 2), (0, 3)), "hours": ((0, 9), (1, 2), (4, 5), (7, 8)), "ring": (0, 1, 2, 3),
    "persons": (1, 2, 3), "ways": ((1, 0, 2), (1, 0, 3), (2, 0, 3)), "person": 0, "three": (3, 1, 2),
    "a": 3, "b": 2, "c": 1, "wanted": (3, 1, 2, 0), "wishes": ((3, 1), (2, 0), (3, 2), (1, 0)), "indexes": (1, 2),
    "things": (0, 2, 3), "turn": (1, 3), "first": (3, 2, 0, 1), "second": (1, 2, 0, 3),
}
# Other kinds of arguments under a name that stands above.
OTHERS = {
    "distance": {"other": (3, 1, 2, 0)},
    "read_tree": {"text": "[3 {2 0} 1]"},
    "read_set": {"text": "0 2"},
    "read_table": {"text": "0 1\n-\n1 2 3"},
    "read_pairs": {"text": "0-1\n0-2\n0-3"},
}


def passed_to(function, arguments):
    """What the tests pass to the function, by the names of its arguments."""
    values = {**ARGUMENTS, **OTHERS.get(function.__name__, {})}
    return {name: values[name] for name in arguments}


def class_of(name):
    """A class of the interface, off the file under which it is listed."""
    return getattr(importlib.import_module("unpartedrows." + CLASSES[name][0]), name)


def listed():
    """The name of the module, the function itself and its arguments, for each function of the interface."""
    for module, functions in FUNCTIONS.items():
        found = importlib.import_module("unpartedrows." + module)
        for name, arguments in functions.items():
            yield module, getattr(found, name), arguments
