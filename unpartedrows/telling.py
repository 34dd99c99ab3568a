"""What a tree tells: its orders, their number, and the number of each of them."""

from math import factorial

from unpartedrows.errors import OutOfRange
from unpartedrows.tables import check_order, first_parted
from unpartedrows.trees import arranged, check_own_tree, least_thing, sets_of


def tells(tree, order):
    """True if the tree tells the order."""
    check_order(check_own_tree(tree), order)
    return first_parted(order, sets_of(tree)) is None


def counted(tree):
    """How many orders are told by what is known to be a tree."""
    if isinstance(tree, int):
        return 1
    word, parts = tree
    many = 2 if word == "row" else factorial(len(parts))
    for part in parts:
        many = many * counted(part)
    return many


def count(tree):
    """The number of the orders that the tree tells."""
    check_own_tree(tree)
    return counted(tree)


def joined(orders):
    """One order behind the other."""
    return [thing for order in orders for thing in order]


def sequence_number(sequence):
    """How many sequences of the same different numbers are less than this one."""
    number = 0
    left = sorted(sequence)
    for item in sequence:
        number = number * len(left) + left.index(item)
        left.remove(item)
    return number


def sequence_at(many, number):
    """The sequence of 0 to many - 1 than which so many others are less."""
    digits = []
    for base in range(1, many + 1):
        number, digit = divmod(number, base)
        digits.append(digit)
    left = list(range(many))
    sequence = []
    for digit in reversed(digits):
        sequence.append(left.pop(digit))
    return sequence


def placed_at(form, number):
    """The order with a number, as a list, of a tree in normal form."""
    if isinstance(form, int):
        return [form]
    word, parts = form
    orders = []
    # The number was built up from the first part to the last one, so it is taken apart from the last one.
    for part in reversed(parts):
        number, rest = divmod(number, counted(part))
        orders.append(placed_at(part, rest))
    orders.reverse()
    if word == "any":
        return joined([orders[index] for index in sequence_at(len(parts), number)])
    if number == 1:
        orders.reverse()
    return joined(orders)


def order_at(tree, number):
    """The order with a number; OutOfRange if there is none."""
    check_own_tree(tree)
    if not 0 <= number < counted(tree):
        raise OutOfRange("no order of the tree has this number")
    return tuple(placed_at(arranged(tree), number))


def number_at(form, order):
    """The number that the part of a told order which a tree in normal form makes up has there."""
    if isinstance(form, int):
        return 0
    word, parts = form
    # A part stands in one stretch of a told order, so the place of any one of its things will do.
    places = [order.index(least_thing(part)) for part in parts]
    if word == "any":
        number = sequence_number([places.index(place) for place in sorted(places)])
    else:
        number = 0 if places[0] < places[-1] else 1
    for part in parts:
        number = number * counted(part) + number_at(part, order)
    return number


def number_of(tree, order):
    """The number of an order, or None if the tree does not tell it."""
    if not tells(tree, order):
        return None
    return number_at(arranged(tree), order)


def least_listed(tree):
    """The least order, as a list, that is told by what is known to be a tree."""
    if isinstance(tree, int):
        return [tree]
    word, parts = tree
    orders = [least_listed(part) for part in parts]
    if word == "any":
        return joined(sorted(orders))
    return min(joined(orders), joined(orders[::-1]))


def least_order(tree):
    """The least order that the tree tells."""
    check_own_tree(tree)
    return tuple(least_listed(tree))
