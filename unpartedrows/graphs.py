"""Meetings: their check, who met whom, and the ways from one person to another."""

from itertools import combinations

from unpartedrows.errors import InvalidMeetings
from unpartedrows.tables import is_number_of_things


def check_meetings(n, pairs):
    """Return the meetings; InvalidMeetings if they are none of n persons."""
    if not is_number_of_things(n):
        raise InvalidMeetings("there are no meetings of so many persons")
    if list(pairs) != [pair for pair in combinations(range(n), 2) if pair in pairs]:
        raise InvalidMeetings("meetings are different pairs of persons, the lesser one first, in ascending order")
    return pairs


def have_met(pairs, person, other):
    """True if the two numbers are persons who met."""
    return (min(person, other), max(person, other)) in pairs


def met_by(n, pairs):
    """For each person those whom this one met, in ascending order."""
    met = [[] for _ in range(n)]
    for person, other in pairs:
        met[person].append(other)
        met[other].append(person)
    return met


def ways_from(met, first, barred):
    """A shortest way from a person to each one who can be reached if nobody on the way is barred."""
    if first in barred:
        return {}
    ways = {first: (first,)}
    ends = [first]
    while ends:
        further = []
        for end in ends:
            for other in met[end]:
                if other not in ways and other not in barred:
                    ways[other] = ways[end] + (other,)
                    further.append(other)
        ends = further
    return ways
