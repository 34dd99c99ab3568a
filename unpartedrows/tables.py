"""Numbers of things, sets, tables and orders, and what stands together in an order."""

from unpartedrows.errors import InvalidOrder, InvalidTable, OutOfRange

MOST_THINGS = 24
MOST_SETS = 40


def is_number_of_things(n):
    """True if there may be so many things."""
    return 1 <= n <= MOST_THINGS


def check_things(n):
    """Return the number of things; OutOfRange if it is not 1 to 24."""
    # No message of the program shows a number it was given: Python refuses to write very long ones.
    if not is_number_of_things(n):
        raise OutOfRange("the number of things is not 1 to 24")
    return n


def are_different(n, things):
    """True if each number is one of n things, or persons, and none stands twice."""
    return all([thing in range(n) for thing in things]) and len(set(things)) == len(things)


def check_different(n, things):
    """Return the things; OutOfRange if they are not different ones of n things."""
    if not are_different(n, things):
        raise OutOfRange("these are not different things")
    return things


def have_common(chosen, other):
    """True if the two sets have a thing in common."""
    return any([thing in other for thing in chosen])


def is_within(chosen, other):
    """True if the other set has all things of the set."""
    return all([thing in other for thing in chosen])


def check_set(n, chosen):
    """Return the set; InvalidTable if it is no set of n things."""
    if not is_number_of_things(n):
        raise InvalidTable("there are no sets of so many things")
    if list(chosen) != [thing for thing in range(n) if thing in chosen]:
        raise InvalidTable("a set has different things, from 0 to n - 1, in ascending order")
    return chosen


def check_table(n, sets):
    """Return the table; InvalidTable if it is no table of n things."""
    if not is_number_of_things(n):
        raise InvalidTable("there are no tables of so many things")
    if len(sets) > MOST_SETS:
        raise InvalidTable("a table has at most 40 sets")
    for chosen in sets:
        check_set(n, chosen)
    return sets


def check_order(n, order):
    """Return the order; InvalidOrder if it is no order of n things."""
    if not is_number_of_things(n):
        raise InvalidOrder("there are no orders of so many things")
    if sorted(order) != list(range(n)):
        raise InvalidOrder("in an order each thing from 0 to n - 1 stands once")
    return order


def stretch_of(order, chosen):
    """The first and the last place of a thing of the set in the order, or None for the empty set."""
    check_order(len(order), order)
    check_set(len(order), chosen)
    if not chosen:
        return None
    places = [order.index(thing) for thing in chosen]
    return (min(places), max(places))


def spanned(order, chosen):
    """The set of all things from the first to the last place of the set in the order."""
    stretch = stretch_of(order, chosen)
    if stretch is None:
        return ()
    first, last = stretch
    return tuple(sorted(order[first:last + 1]))


def stands_together(order, chosen):
    """True if no other thing stands between two things of the set."""
    return len(spanned(order, chosen)) == len(chosen)


def first_parted(order, sets):
    """The index of the first set of the table that does not stand together in the order, or None."""
    check_order(len(order), order)
    check_table(len(order), sets)
    for index, chosen in enumerate(sets):
        if not stands_together(order, chosen):
            return index
    return None
