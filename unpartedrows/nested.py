"""Sets that cross, and sets within one another."""

from itertools import combinations

from unpartedrows.tables import check_table, have_common, is_within


def cross(chosen, other):
    """True if the sets have a thing in common and each of them has one that the other one has not."""
    return have_common(chosen, other) and not is_within(chosen, other) and not is_within(other, chosen)


def first_crossing(n, sets):
    """The first pair of indexes of sets that cross, or None."""
    check_table(n, sets)
    for i, j in combinations(range(len(sets)), 2):
        if cross(sets[i], sets[j]):
            return (i, j)
    return None


def holds(sets, holder, held):
    """True if the set with the one index holds the set with the other one, which is not empty."""
    if not is_within(sets[held], sets[holder]):
        return False
    return len(sets[holder]) > len(sets[held]) or holder < held


def holder_of(sets, held):
    """The index of the holder of a set, or None if no set holds it."""
    if not sets[held]:
        return None
    # Of several sets with as few things the last one is the holder, so its index counts the other way round.
    found = [(len(sets[holder]), -holder) for holder in range(len(sets)) if holds(sets, holder, held)]
    if not found:
        return None
    return -min(found)[1]


def holders(n, sets):
    """The index of the holder of each set, or None for a set that no set holds; None if two sets cross."""
    if first_crossing(n, sets) is not None:
        return None
    return tuple([holder_of(sets, held) for held in range(len(sets))])
