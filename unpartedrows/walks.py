"""Turns of orders, and walks of turns on which all orders are told by one tree."""

from unpartedrows.errors import OutOfRange
from unpartedrows.tables import check_order, stretch_of
from unpartedrows.telling import tells
from unpartedrows.trees import check_own_tree, least_thing, things_of


def is_turn(order, turn):
    """True if the value is a turn of the order."""
    return len(turn) == 2 and 0 <= turn[0] < turn[1] < len(order)


def do_turn(order, turn):
    """The order with one stretch in reverse; OutOfRange if the value is no turn of the order."""
    check_order(len(order), order)
    if not is_turn(order, turn):
        raise OutOfRange("this is no turn of the order")
    low, high = turn
    return order[:low] + order[low:high + 1][::-1] + order[high + 1:]


def as_in(parts, order):
    """The parts of a tree in the sequence in which they stand in a told order."""
    # A part stands in one stretch of a told order, so the place of any one of its things will do.
    places = [order.index(least_thing(part)) for part in parts]
    return [parts[places.index(place)] for place in sorted(places)]


def walked(tree, order, wanted):
    """The turns by which the things of a tree get into the sequence that they have in the wanted order.

    The tree is known to be one, or a part of one, that tells both orders.
    """
    if isinstance(tree, int):
        return []
    turns = []
    at, _ = stretch_of(order, things_of(tree))
    # A turn of neighboring parts puts each of them into reverse, too, and all of this is told. In a "row" either
    # nothing is to be turned, or all parts at once, for then the last one comes first.
    for part in as_in(tree[1], wanted):
        low, high = stretch_of(order, things_of(part))
        if low > at:
            turns.append((at, high))
            order = do_turn(order, (at, high))
        at += high - low + 1
    for part in tree[1]:
        turns.extend(walked(part, order, wanted))
    return turns


def walk(tree, first, second):
    """Turns that lead from the first to the second order by told orders only; OutOfRange if one of the two is not."""
    n = check_own_tree(tree)
    check_order(n, first)
    check_order(n, second)
    if not (tells(tree, first) and tells(tree, second)):
        raise OutOfRange("the tree does not tell both orders")
    return tuple(walked(tree, first, second))
