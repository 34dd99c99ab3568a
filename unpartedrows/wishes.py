"""Wishes: which of two things is to stand ahead of the other one in an order that a tree tells."""

from unpartedrows.errors import OutOfRange
from unpartedrows.tables import check_different
from unpartedrows.telling import joined
from unpartedrows.trees import check_narrow, check_own_tree, part_places, parted_at


def check_wishes(n, wishes):
    """Return the wishes; OutOfRange if one is no wish for a tree over n things."""
    for wish in wishes:
        if len(wish) != 2:
            raise OutOfRange("a wish is a pair")
        check_different(n, wish)
    return wishes


def split_wishes(parts, wishes, indexes):
    """For each pair of parts an index of a wish for them, and for each part the indexes of the wishes within it.

    Only the wishes with these indexes count.
    """
    places = part_places(parts)
    links = {}
    within = [[] for _ in parts]
    for index in indexes:
        a, b = wishes[index]
        if places[a] == places[b]:
            within[places[a]].append(index)
        else:
            links[(places[a], places[b])] = index
    return (links, within)


def wish_ahead(links, left, part):
    """One of the parts left that a wish puts ahead of the part, or None if there is none."""
    for other in left:
        if (other, part) in links:
            return other
    return None


def ring_among(links, left):
    """A ring of wishes for parts each of which has another one of them that is to stand ahead of it."""
    trail = [left[0]]
    ahead = wish_ahead(links, left, left[0])
    while ahead not in trail:
        trail.append(ahead)
        ahead = wish_ahead(links, left, ahead)
    # The trail goes from each part to one ahead of it, so the ring goes through its end the other way round.
    ring = [ahead] + trail[:trail.index(ahead):-1] + [ahead]
    return [links[link] for link in zip(ring, ring[1:])]


def any_sequence(parts, links):
    """A sequence of the parts of an "any" that keeps the wishes for them, or a ring among these."""
    left = list(range(len(parts)))
    sequence = []
    while left:
        free = [part for part in left if wish_ahead(links, left, part) is None]
        if not free:
            return ("ring", ring_among(links, left))
        sequence.append(free[0])
        left.remove(free[0])
    return ("order", sequence)


def row_sequence(parts, links):
    """The sequence of the parts of a "row" that keeps the wishes for them, or a ring among these."""
    onward = [links[(ahead, behind)] for ahead, behind in links if ahead < behind]
    back = [links[(ahead, behind)] for ahead, behind in links if ahead > behind]
    if onward and back:
        return ("ring", [onward[0], back[0]])
    sequence = list(range(len(parts)))
    return ("order", sequence[::-1] if back else sequence)


def kept_or_ring(tree, wishes, indexes):
    """A told order, as a list, that keeps the wishes with these indexes, or a ring among them; with the word for it."""
    if isinstance(tree, int):
        return ("order", [tree])
    word, parts = tree
    links, within = split_wishes(parts, wishes, indexes)
    kind, sequence = any_sequence(parts, links) if word == "any" else row_sequence(parts, links)
    if kind == "ring":
        return (kind, sequence)
    orders = []
    for part, inner in zip(parts, within):
        kind, found = kept_or_ring(part, wishes, inner)
        if kind == "ring":
            return (kind, found)
        orders.append(found)
    return ("order", joined([orders[at] for at in sequence]))


def with_wishes(tree, wishes):
    """A told order that keeps all wishes, or a ring among them."""
    check_wishes(check_own_tree(tree), wishes)
    kind, found = kept_or_ring(tree, wishes, list(range(len(wishes))))
    return (kind, tuple(found))


def is_wish_ring(tree, wishes, indexes):
    """True if the indexes are a ring among the wishes."""
    check_wishes(check_own_tree(tree), wishes)
    if not indexes or not all([index in range(len(wishes)) for index in indexes]):
        return False
    (word, parts), _ = parted_at(tree, wishes[indexes[0]])
    places = part_places(parts)
    links = [[places.get(thing) for thing in wishes[index]] for index in indexes]
    if any([None in link or link[0] == link[1] for link in links]):
        return False
    if word == "row":
        return len(links) == 2 and (links[0][0] < links[0][1]) != (links[1][0] < links[1][1])
    return all([link[1] == following[0] for link, following in zip(links, links[1:] + links[:1])])


def any_ways(parts, links):
    """In how many sequences of the parts of an "any" all wishes for them are kept."""
    many = len(parts)
    # The parts of a group are the bits of its number; the last part of a sequence has no wish to stand ahead of it.
    ways = {0: 1}
    for group in range(1, 1 << many):
        inside = [part for part in range(many) if group >> part & 1]
        lasts = [last for last in inside if not any([(last, part) in links for part in inside])]
        ways[group] = sum([ways[group - (1 << last)] for last in lasts])
    return ways[(1 << many) - 1]


def row_ways(links):
    """In how many of the two directions of a "row" all wishes for its parts are kept."""
    onward = [ahead < behind for ahead, behind in links]
    return [all(onward), not any(onward)].count(True)


def kept_count(tree, wishes, indexes):
    """How many told orders of what is known to be a tree keep the wishes with these indexes."""
    if isinstance(tree, int):
        return 1
    word, parts = tree
    links, within = split_wishes(parts, wishes, indexes)
    many = any_ways(parts, links) if word == "any" else row_ways(links)
    for part, inner in zip(parts, within):
        many = many * kept_count(part, wishes, inner)
    return many


def count_with_wishes(tree, wishes):
    """How many told orders keep all wishes."""
    check_wishes(check_own_tree(tree), wishes)
    return kept_count(check_narrow(tree), wishes, list(range(len(wishes))))
