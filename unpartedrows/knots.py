"""Knots: as few things and sets as possible that show that no order fits a table."""

from unpartedrows.choosing import chosen_sets
from unpartedrows.reducing import all_together
from unpartedrows.tables import check_set, check_table


def some_fits(sets, things, indexes):
    """True if some order of these things fits the sets with these indexes, each of them with these things alone."""
    # Two things stand together in any order, and of fewer no "any" can be made.
    if len(things) < 3:
        return True
    # What a set has besides the things of the tree makes no difference there.
    return all_together(("any", things), chosen_sets(sets, indexes)) is not None


def without(items, at):
    """The tuple without the item at this place."""
    return items[:at] + items[at + 1:]


def knot_of(n, sets):
    """A knot of the table, or None if some order fits."""
    check_table(n, sets)
    things = tuple(range(n))
    indexes = tuple(range(len(sets)))
    if some_fits(sets, things, indexes):
        return None
    # What was needed once is needed for good: with fewer things and sets still more orders fit. So one pass will do,
    # and as it goes from the last place to the first one, the places ahead stay what they were.
    for at in range(len(sets) - 1, -1, -1):
        if not some_fits(sets, things, without(indexes, at)):
            indexes = without(indexes, at)
    for at in range(n - 1, -1, -1):
        if not some_fits(sets, without(things, at), indexes):
            things = without(things, at)
    return (things, indexes)


def is_knot(n, sets, things, indexes):
    """True if the things and the indexes are a knot of the table."""
    check_table(n, sets)
    check_set(n, things)
    if list(indexes) != [index for index in range(len(sets)) if index in indexes]:
        return False
    if some_fits(sets, things, indexes):
        return False
    return (all([some_fits(sets, without(things, at), indexes) for at in range(len(things))])
            and all([some_fits(sets, things, without(indexes, at)) for at in range(len(indexes))]))
