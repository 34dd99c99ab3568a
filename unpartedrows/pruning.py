"""What is left of trees and orders if only some things count."""

from unpartedrows.errors import OutOfRange
from unpartedrows.reducing import grouped
from unpartedrows.tables import check_order, check_set, check_table
from unpartedrows.trees import LEAST_PARTS, arranged, check_own_tree


def left_of(tree, things):
    """At most one tree, in a list: what is left of a tree if all other things are left out."""
    if isinstance(tree, int):
        return [tree] if tree in things else []
    word, parts = tree
    left = [form for part in parts for form in left_of(part, things)]
    # Two parts of a "row" stand in either sequence, as those of an "any" do.
    if len(left) < LEAST_PARTS[word]:
        return grouped(left)
    return [(word, tuple(left))]


def pruned(tree, things):
    """The tree pruned to a set of its things; OutOfRange for the empty set."""
    check_set(check_own_tree(tree), things)
    if not things:
        raise OutOfRange("no order is left of no things")
    return arranged(left_of(tree, things)[0])


def gap_count(order, chosen):
    """How many stretches of other things stand between two things of the set."""
    inside = [thing in chosen for thing in order]
    # Each stretch of chosen things but the first one has a gap ahead of it.
    begun = [here and not before for before, here in zip([False] + inside, inside)]
    return max(0, begun.count(True) - 1)


def gaps(order, sets):
    """The numbers of the gaps that the sets of a table have in the order."""
    check_order(len(order), order)
    check_table(len(order), sets)
    return tuple([gap_count(order, chosen) for chosen in sets])
