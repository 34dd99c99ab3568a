"""Trees: their check, their things, their normal form and their sets."""

from unpartedrows.errors import InvalidTree, OutOfRange
from unpartedrows.tables import check_things, is_number_of_things

LEAST_PARTS = {"any": 2, "row": 3}
MOST_PARTS = 8


def checked_parts(value):
    """The parts of a value that should be a tree with parts; InvalidTree if it cannot be one."""
    if len(value) != 2:
        raise InvalidTree("a tree with parts is a pair")
    word, parts = value
    if word not in LEAST_PARTS:
        raise InvalidTree("the word of a tree is neither any nor row")
    if len(parts) < LEAST_PARTS[word]:
        raise InvalidTree("a tree has too few parts")
    return parts


def checked_things(value):
    """The things of a value in the sequence in which they stand; InvalidTree if it is no tree."""
    if isinstance(value, int):
        if value < 0:
            raise InvalidTree("a number below 0 is no thing")
        return [value]
    found = []
    for part in checked_parts(value):
        found.extend(checked_things(part))
    # Not only at the end: a value whose parts are again and again the same one has far too many things to list.
    if len(set(found)) < len(found):
        raise InvalidTree("a thing stands twice in the tree")
    return found


def things_of(tree):
    """The set of the things of a tree; InvalidTree if it is no tree."""
    return tuple(sorted(checked_things(tree)))


def check_tree(n, tree):
    """Return the tree as it is; InvalidTree if it is no tree over n things."""
    if not is_number_of_things(n):
        raise InvalidTree("there are no trees over so many things")
    if things_of(tree) != tuple(range(n)):
        raise InvalidTree("the things of the tree are not 0 to n - 1")
    return tree


def check_own_tree(tree):
    """How many things the tree is over; InvalidTree if it is none over as many things as it has."""
    n = len(things_of(tree))
    check_tree(n, tree)
    return n


def least_thing(tree):
    """The least thing of a tree."""
    if isinstance(tree, int):
        return tree
    return min([least_thing(part) for part in tree[1]])


def part_places(parts):
    """For each thing the index of the part in which it stands."""
    return {thing: at for at, part in enumerate(parts) for thing in things_of(part)}


def parted_at(tree, things):
    """The least subtree in which all these things stand, at least two, and the index of its part for each of them."""
    parts = tree[1]
    places = part_places(parts)
    found = [places[thing] for thing in things]
    if found.count(found[0]) == len(found):
        return parted_at(parts[found[0]], things)
    return (tree, found)


def check_narrow(tree):
    """Return what is known to be a tree; OutOfRange if an "any" in it has more than 8 parts."""
    if not isinstance(tree, int):
        word, parts = tree
        if word == "any" and len(parts) > MOST_PARTS:
            raise OutOfRange("an any of the tree has more than 8 parts")
        for part in parts:
            check_narrow(part)
    return tree


def arranged(tree):
    """The normal form of what is known to be a tree."""
    if isinstance(tree, int):
        return tree
    word, parts = tree
    forms = [arranged(part) for part in parts]
    if word == "any":
        forms = sorted(forms, key=least_thing)
    elif least_thing(forms[0]) > least_thing(forms[-1]):
        forms.reverse()
    return (word, tuple(forms))


def normal(tree):
    """The normal form of a tree; InvalidTree if it is no tree."""
    things_of(tree)
    return arranged(tree)


def plain_tree(n):
    """The tree that tells all orders of n things; OutOfRange if n is not 1 to 24."""
    check_things(n)
    if n == 1:
        return 0
    return ("any", tuple(range(n)))


def own_sets(tree):
    """The sets that a tree has itself, without those of its parts."""
    word, parts = tree
    if word == "any":
        return [things_of(tree)]
    sets = []
    for left, right in zip(parts, parts[1:]):
        sets.append(tuple(sorted(things_of(left) + things_of(right))))
    return sets


def listed_sets(tree):
    """The sets of all subtrees of what is known to be a tree."""
    if isinstance(tree, int):
        return []
    sets = own_sets(tree)
    for part in tree[1]:
        sets.extend(listed_sets(part))
    return sets


def sets_of(tree):
    """The sets of a tree in ascending order; InvalidTree if it is no tree."""
    things_of(tree)
    return tuple(sorted(listed_sets(tree)))
