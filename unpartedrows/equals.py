"""Visits that all last equally long, or a claw, which shows that there are none."""

from itertools import combinations

from unpartedrows.graphs import check_meetings, have_met, met_by
from unpartedrows.reducing import tree_of
from unpartedrows.tables import are_different
from unpartedrows.telling import least_order
from unpartedrows.visits import visits


def is_claw(n, pairs, person, three):
    """True if the person met the three others, and no two of these met."""
    check_meetings(n, pairs)
    if len(three) != 3 or not are_different(n, (person, *three)):
        return False
    if not all([have_met(pairs, person, other) for other in three]):
        return False
    a, b, c = three
    return not (have_met(pairs, a, b) or have_met(pairs, a, c) or have_met(pairs, b, c))


def claw_among(met):
    """A person and three others that are a claw, or None if there is none."""
    for person, beside in enumerate(met):
        for a, b, c in combinations(beside, 3):
            if b not in met[a] and c not in met[a] and c not in met[b]:
                return (person, (a, b, c))
    return None


def delays_for(met, order, length):
    """What equal hours must keep if the persons come in this order: (one, other, delay).

    The other one comes at least so much later than the one.
    """
    delays = []
    for first, second in combinations(order, 2):
        if second in met[first]:
            delays.append((first, second, 0))
            delays.append((second, first, -length))
        else:
            delays.append((first, second, length + 1))
    return delays


def equal_comes(met, order, length):
    """When each person comes, if they come in this order and stay for this length."""
    delays = delays_for(met, order, length)
    comes = [0 for _ in order]
    moved = True
    while moved:
        moved = False
        for one, other, delay in delays:
            if comes[other] < comes[one] + delay:
                comes[other] = comes[one] + delay
                moved = True
    return tuple(comes)


def equal_visits(n, pairs):
    """Equal hours that explain the meetings, or what shows that there are none."""
    check_meetings(n, pairs)
    met = met_by(n, pairs)
    # In the order in which persons with equal hours come, each of them stands together with all whom this one met.
    circles = [tuple(sorted([person] + beside)) for person, beside in enumerate(met)]
    tree = tree_of(n, tuple(circles))
    if tree is not None:
        # Where there are equal hours at all, delays that lead around in a circle are more often -length than
        # length + 1. The latter are fewer than n, so with the length n the delays add up to 0 at most.
        return ("equal", n, equal_comes(met, list(least_order(tree)), n))
    found = visits(n, pairs)
    if found[0] != "hours":
        return found
    person, three = claw_among(met)
    return ("claw", person, three)
