"""The choice of as many sets of a table as some order fits."""

from itertools import combinations

from unpartedrows.errors import OutOfRange
from unpartedrows.reducing import tree_of
from unpartedrows.tables import check_table

MOST_TO_CHOOSE = 8


def chosen_sets(sets, indexes):
    """The sets with these indexes."""
    return tuple([sets[index] for index in indexes])


def greatest_choice(n, sets):
    """The first choice with the greatest number of sets that some order fits; OutOfRange for more than 8 sets."""
    check_table(n, sets)
    if len(sets) > MOST_TO_CHOOSE:
        raise OutOfRange("there are more than 8 sets to choose from")
    # Every order fits the choice of no sets, so a choice is found.
    for many in range(len(sets), -1, -1):
        for choice in combinations(range(len(sets)), many):
            if tree_of(n, chosen_sets(sets, choice)) is not None:
                return choice
