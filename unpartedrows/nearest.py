"""The order of a tree that is nearest to a wanted one."""

from itertools import combinations

from unpartedrows.tables import check_order
from unpartedrows.telling import joined
from unpartedrows.trees import check_narrow, check_own_tree


def turned(wanted, ahead, behind):
    """How many pairs of a thing ahead and a thing behind stand the other way round in the wanted order."""
    return sum([1 for thing in ahead for other in behind if wanted.index(thing) > wanted.index(other)])


def distance(order, other):
    """How many pairs of things stand in one sequence in the one and in the other sequence in the other order."""
    check_order(len(order), order)
    check_order(len(order), other)
    return sum([turned(other, [order[at]], order[at + 1:]) for at in range(len(order))])


def put_behind(costs, found, last):
    """The cost of a sequence of parts and the sequence, if one more part is put behind them."""
    cost, sequence = found
    return (cost + sum([costs[part][last] for part in sequence]), sequence + (last,))


def best_sequence(costs):
    """The least cost of any sequence of the parts, and such a sequence."""
    many = len(costs)
    # The parts of a group are the bits of its number; a best sequence of them begins with a best one of all but one.
    best = {0: (0, ())}
    for group in range(1, 1 << many):
        lasts = [part for part in range(many) if group >> part & 1]
        best[group] = min([put_behind(costs, best[group - (1 << last)], last) for last in lasts])
    return best[(1 << many) - 1]


def best_direction(costs):
    """The least cost of the parts as they stand or in reverse, and this sequence."""
    onward = list(range(len(costs)))
    pairs = [costs[part][other] for part, other in combinations(onward, 2)]
    back_pairs = [costs[other][part] for part, other in combinations(onward, 2)]
    return min((sum(pairs), onward), (sum(back_pairs), onward[::-1]))


def nearest_listed(tree, wanted):
    """The least distance and a nearest order, as a list, of what is known to be a tree."""
    if isinstance(tree, int):
        return (0, [tree])
    word, parts = tree
    found = [nearest_listed(part, wanted) for part in parts]
    orders = [order for _, order in found]
    # What two parts cost depends on which one stands ahead, but not on the orders within them.
    costs = [[turned(wanted, ahead, behind) for behind in orders] for ahead in orders]
    cost, sequence = best_sequence(costs) if word == "any" else best_direction(costs)
    within = sum([least for least, _ in found])
    return (within + cost, joined([orders[at] for at in sequence]))


def nearest(tree, wanted):
    """The least distance of an order that the tree tells to the wanted one, and such an order."""
    check_order(check_own_tree(tree), wanted)
    least, order = nearest_listed(check_narrow(tree), wanted)
    return (least, tuple(order))
