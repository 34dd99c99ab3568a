"""What is so in some or in all of the orders that a tree tells.

A share is a pair (part, whole): it is so in that part of equally many orders each into which all told orders fall.
"""

from unpartedrows.reducing import reduced
from unpartedrows.tables import check_different
from unpartedrows.trees import arranged, check_own_tree, part_places, parted_at

NEVER = (0, 1)
HALF = (1, 2)
THIRD = (1, 3)
ALWAYS = (1, 1)


def first_share(tree, a):
    """The share of the told orders that begin with a thing of what is known to be a tree; as many end with it."""
    if isinstance(tree, int):
        return ALWAYS
    word, parts = tree
    at = part_places(parts)[a]
    if word == "row" and 0 < at < len(parts) - 1:
        return NEVER
    part, whole = first_share(parts[at], a)
    return (part, whole * (len(parts) if word == "any" else 2))


def neighbor_share(tree, a, b):
    """The share of the told orders in which two things stand side by side."""
    (word, parts), (left, right) = parted_at(tree, (a, b))
    if word == "row" and abs(left - right) > 1:
        return NEVER
    # Two of so many parts stand side by side in two of so many cases, and their ends there do not depend on it.
    part, whole = (2, len(parts)) if word == "any" else ALWAYS
    left_part, left_whole = first_share(parts[left], a)
    right_part, right_whole = first_share(parts[right], b)
    return (part * left_part * right_part, whole * left_whole * right_whole)


def between_share(tree, a, b, c):
    """The share of the told orders in which b stands between a and c."""
    (word, _), (at_a, at_b, at_c) = parted_at(tree, (a, b, c))
    if at_a == at_c:
        return NEVER
    # Within a part each order stands beside its reverse.
    if at_b in (at_a, at_c):
        return HALF
    if word == "any":
        return THIRD
    return ALWAYS if at_a < at_b < at_c or at_c < at_b < at_a else NEVER


def can_neighbor(tree, a, b):
    """True if the two things stand side by side in some told order."""
    check_different(check_own_tree(tree), (a, b))
    part, _ = neighbor_share(tree, a, b)
    return part > 0


def can_be_first(tree, a):
    """True if some told order begins with the thing."""
    check_different(check_own_tree(tree), (a,))
    part, _ = first_share(tree, a)
    return part > 0


def can_be_between(tree, a, b, c):
    """True if b stands between a and c in some told order."""
    check_different(check_own_tree(tree), (a, b, c))
    return between_share(tree, a, b, c) != NEVER


def is_always_between(tree, a, b, c):
    """True if b stands between a and c in every told order."""
    check_different(check_own_tree(tree), (a, b, c))
    return between_share(tree, a, b, c) == ALWAYS


def is_always_together(tree, chosen):
    """True if the set stands together in every told order."""
    return reduced(tree, chosen) == arranged(tree)
