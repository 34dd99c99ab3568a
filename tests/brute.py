"""What the tests hold the program against: plain, slow words of DOC.md, without the program."""

from itertools import chain, combinations, permutations, product


def orders_of(n):
    """All orders of n things."""
    return list(permutations(range(n)))


def sets_below(n):
    """All sets of n things."""
    return [chosen for many in range(n + 1) for chosen in combinations(range(n), many)]


def is_together(order, chosen):
    """Point 1.2: no other thing stands between two things of the set."""
    for low, middle, high in combinations(order, 3):
        if low in chosen and high in chosen and middle not in chosen:
            return False
    return True


def fits(order, sets):
    """Point 1.2: each set stands together in the order."""
    return all(is_together(order, chosen) for chosen in sets)


def fitting(n, sets):
    """All orders of n things that fit the sets."""
    return [order for order in orders_of(n) if fits(order, sets)]


def is_together_around(order, chosen):
    """Point 4.1: some stretch of the ring has the things of the set and no others."""
    n = len(order)
    ring = order + order
    stretches = [ring[at:at + len(chosen)] for at in range(n)]
    return any(sorted(stretch) == sorted(chosen) for stretch in stretches)


def fitting_around(n, sets):
    """All orders around that fit the sets."""
    return [order for order in orders_of(n)
            if order[0] == 0 and all(is_together_around(order, chosen) for chosen in sets)]


def leaves(tree):
    """The things of a tree as they stand."""
    if isinstance(tree, int):
        return [tree]
    return [thing for part in tree[1] for thing in leaves(part)]


def arrangements(tree):
    """Point 2.2: the sequences in which the parts may stand, in ascending order of their indexes."""
    word, parts = tree
    indexes = tuple(range(len(parts)))
    if word == "any":
        return list(permutations(indexes))
    return [indexes, indexes[::-1]]


def told(tree):
    """All orders that the tree tells (point 2.2); those of a normal form in the sequence of point 2.5."""
    if isinstance(tree, int):
        return [(tree,)]
    choices = list(product(*[told(part) for part in tree[1]]))
    return [tuple(chain.from_iterable(choice[index] for index in indexes))
            for indexes in arrangements(tree) for choice in choices]


def partings(things):
    """All ways to part a tuple of things into blocks."""
    if not things:
        return [[]]
    ways = []
    for way in partings(things[1:]):
        ways.append([(things[0],)] + way)
        for at, block in enumerate(way):
            ways.append([(things[0],) + block] + way[:at] + way[at + 1:])
    return ways


def trees_over(things):
    """All trees in normal form with these things."""
    if len(things) == 1:
        return [things[0]]
    found = []
    for blocks in partings(things):
        if len(blocks) == 1:
            continue
        choices = list(product(*[trees_over(block) for block in blocks]))
        for choice in choices:
            found.append(("any", tuple(sorted(choice, key=lambda part: min(leaves(part))))))
            if len(blocks) > 2:
                found.extend(("row", parts) for parts in permutations(choice)
                             if min(leaves(parts[0])) < min(leaves(parts[-1])))
    return found


def shuffled(tree, random):
    """The same tree, with its parts in another sequence that tells the same."""
    if isinstance(tree, int):
        return tree
    word, parts = tree
    parts = [shuffled(part, random) for part in parts]
    indexes = random.choice(arrangements(tree)) if len(parts) < 7 else range(len(parts))[::-1]
    return (word, tuple(parts[index] for index in indexes))


def is_normal(tree):
    """Point 2.3, for what is known to be a tree."""
    if isinstance(tree, int):
        return True
    word, parts = tree
    least = [min(leaves(part)) for part in parts]
    well = least == sorted(least) if word == "any" else least[0] < least[-1]
    return well and all(is_normal(part) for part in parts)


def is_paper(sets, value):
    """Point 3.2, condition by condition."""
    word, things, chains = value
    if word != "three" or type(things) is not tuple or type(chains) is not tuple:
        return False
    if len(things) != 3 or len(chains) != 3 or list(things) != sorted(set(things)):
        return False
    a, b, c = things
    for chained, (first, last, third) in zip(chains, ((a, b, c), (a, c, b), (b, c, a))):
        if type(chained) is not tuple or len(chained) == 0:
            return False
        if not all(index in range(len(sets)) for index in chained):
            return False
        links = [set(sets[index]) for index in chained]
        if first not in links[0] or last not in links[-1] or any(third in link for link in links):
            return False
        if not all(link & other for link, other in zip(links, links[1:])):
            return False
    return True
