"""In how many of the orders that a tree tells something is so."""

from unpartedrows.questions import between_share, first_share, neighbor_share
from unpartedrows.reducing import reduced
from unpartedrows.tables import check_different
from unpartedrows.telling import counted
from unpartedrows.trees import check_own_tree


def counted_share(tree, share):
    """How many orders a share of those is that the tree tells."""
    part, whole = share
    return counted(tree) * part // whole


def count_together(tree, chosen):
    """In how many told orders the set stands together."""
    narrowed = reduced(tree, chosen)
    return 0 if narrowed is None else counted(narrowed)


def count_neighbors(tree, a, b):
    """In how many told orders the two things stand side by side."""
    check_different(check_own_tree(tree), (a, b))
    return counted_share(tree, neighbor_share(tree, a, b))


def count_first(tree, a):
    """How many told orders begin with the thing."""
    check_different(check_own_tree(tree), (a,))
    return counted_share(tree, first_share(tree, a))


def count_between(tree, a, b, c):
    """In how many told orders b stands between a and c."""
    check_different(check_own_tree(tree), (a, b, c))
    return counted_share(tree, between_share(tree, a, b, c))
