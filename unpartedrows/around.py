"""Orders around a ring."""

from unpartedrows.errors import InvalidOrder
from unpartedrows.papers import found_paper
from unpartedrows.reducing import all_together
from unpartedrows.tables import check_order, check_table, stands_together
from unpartedrows.telling import count
from unpartedrows.trees import plain_tree


def others_of(n, chosen):
    """The set of all other things."""
    return tuple([thing for thing in range(n) if thing not in chosen])


def check_order_around(n, order):
    """Return the order around; InvalidOrder if it is no order of n things that begins with 0."""
    check_order(n, order)
    if order[0] != 0:
        raise InvalidOrder("an order around begins with 0")
    return order


def stands_around(order, chosen):
    """True if the things of the set, or all other things, stand together in the order around."""
    n = len(order)
    check_order_around(n, order)
    return stands_together(order, chosen) or stands_together(order, others_of(n, chosen))


def opened_table(n, sets):
    """The opened table: sets without 0 that stand together exactly if the given ones stand together around."""
    check_table(n, sets)
    opened = [others_of(n, chosen) if 0 in chosen else chosen for chosen in sets]
    return (*opened, tuple(range(1, n)))


def ring_tree(n, sets):
    """The tree of the opened table, or None if no order around fits."""
    # The opened table of 40 sets has one more than a table may have, so it is not checked as one.
    opened = opened_table(n, sets)
    return all_together(plain_tree(n), opened)


def ring_count(n, sets):
    """The number of the orders around that fit."""
    tree = ring_tree(n, sets)
    if tree is None:
        return 0
    if n == 1:
        return 1
    return count(tree) // 2


def ring_paper(n, sets):
    """A paper for the opened table, or None if some order around fits."""
    return found_paper(n, opened_table(n, sets))
