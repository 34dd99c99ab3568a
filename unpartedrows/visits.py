"""Visits: hours that explain who met whom, or a small paper that shows that there are none."""

from itertools import combinations

from unpartedrows.graphs import check_meetings, have_met, met_by, ways_from
from unpartedrows.reducing import tree_of
from unpartedrows.tables import are_different, is_within, stretch_of
from unpartedrows.telling import least_order


def are_hours(n, hours):
    """True if the values are hours for n persons."""
    if len(hours) != n:
        return False
    return all([len(visit) == 2 and visit[0] <= visit[1] for visit in hours])


def are_together(visit, other):
    """True if neither of two persons with these hours goes before the other one comes."""
    return visit[1] >= other[0] and other[1] >= visit[0]


def explains(n, pairs, hours):
    """True if the values are hours that explain the meetings."""
    check_meetings(n, pairs)
    if not are_hours(n, hours):
        return False
    return list(pairs) == [(i, j) for i, j in combinations(range(n), 2) if are_together(hours[i], hours[j])]


def is_shut_ring(n, pairs, ring):
    """True if each person met those beside in the ring, and nobody else of it."""
    check_meetings(n, pairs)
    if len(ring) < 4 or not are_different(n, ring):
        return False
    last = len(ring) - 1
    for at, to in combinations(range(len(ring)), 2):
        beside = to == at + 1 or (at, to) == (0, last)
        if have_met(pairs, ring[at], ring[to]) != beside:
            return False
    return True


def is_way(pairs, way, first, last, third):
    """True if it leads from the first person to the last one, past the third one and all whom that one met."""
    if not way or way[0] != first or way[-1] != last:
        return False
    if any([person == third or have_met(pairs, person, third) for person in way]):
        return False
    return all([have_met(pairs, person, other) for person, other in zip(way, way[1:])])


def avoid(n, pairs, persons, ways):
    """True if the three persons avoid one another by the three ways."""
    check_meetings(n, pairs)
    if len(persons) != 3 or len(ways) != 3 or not are_different(n, persons):
        return False
    a, b, c = persons
    return (is_way(pairs, ways[0], a, b, c)
            and is_way(pairs, ways[1], a, c, b)
            and is_way(pairs, ways[2], b, c, a))


def all_met(met, persons):
    """True if any two of the persons met."""
    return all([other in met[person] for person, other in combinations(persons, 2)])


def next_group(met, left):
    """The first of the persons left who makes up one group with all whom this one met of them, and the group.

    In a group any two persons met. None if there is no such person.
    """
    for person in left:
        beside = [other for other in left if other in met[person]]
        if all_met(met, beside):
            return (person, sorted([person] + beside))
    return None


def groups_of(met):
    """All groups of persons who met one another and whom no further one met; None if there is a shut ring."""
    left = list(range(len(met)))
    groups = []
    # Without a shut ring there is always someone to take out next.
    while left:
        found = next_group(met, left)
        if found is None:
            return None
        person, group = found
        # If someone else met the whole group, this one was taken out before, with a group that contains it.
        if not any([is_within(group, other) for other in groups]):
            groups.append(group)
        left.remove(person)
    return groups


def shut_ring(met):
    """A shut ring, or None if there is none."""
    for person, beside in enumerate(met):
        for first, last in combinations(beside, 2):
            if last not in met[first]:
                barred = [person] + [other for other in beside if other not in (first, last)]
                way = ways_from(met, first, barred).get(last)
                # A shortest way has no two persons who met but are not neighbors on it.
                if way is not None:
                    return (person,) + way
    return None


def avoiding_three(met):
    """Three persons who avoid one another, and their ways, or None if there are none."""
    n = len(met)
    past = [[ways_from(met, first, [third] + met[third]) for first in range(n)] for third in range(n)]
    for a, b, c in combinations(range(n), 3):
        ways = (past[c][a].get(b), past[b][a].get(c), past[a][b].get(c))
        if None not in ways:
            return ((a, b, c), ways)
    return None


def visits(n, pairs):
    """Hours that explain the meetings, or a shut ring, or three persons that avoid one another."""
    check_meetings(n, pairs)
    met = met_by(n, pairs)
    groups = groups_of(met)
    if groups is None:
        return ("ring", shut_ring(met))
    # Each group is a moment of the day; a person is there at the moments of the groups that have this person.
    moments = [tuple([at for at, group in enumerate(groups) if person in group]) for person in range(n)]
    tree = tree_of(len(groups), tuple(moments))
    if tree is None:
        persons, ways = avoiding_three(met)
        return ("three", persons, ways)
    order = least_order(tree)
    return ("hours", tuple([stretch_of(order, chosen) for chosen in moments]))
