"""What the tests hold the program against: plain, slow words of DOC.md, without the program."""

from itertools import chain, combinations, combinations_with_replacement, permutations, product


def orders_of(n):
    """All orders of n things."""
    return list(permutations(range(n)))


def sets_below(n):
    """All sets of n things."""
    return [chosen for many in range(n + 1) for chosen in combinations(range(n), many)]


def is_together(order, chosen):
    """Point 1.2: no other thing stands between two things of the set."""
    for low, middle, high in combinations(order, 3):
        if low in chosen and high in chosen and middle not in chosen:
            return False
    return True


def fits(order, sets):
    """Point 1.2: each set stands together in the order."""
    return all(is_together(order, chosen) for chosen in sets)


def fitting(n, sets):
    """All orders of n things that fit the sets."""
    return [order for order in orders_of(n) if fits(order, sets)]


def is_together_around(order, chosen):
    """Point 4.1: some stretch of the ring has the things of the set and no others."""
    n = len(order)
    ring = order + order
    stretches = [ring[at:at + len(chosen)] for at in range(n)]
    return any(sorted(stretch) == sorted(chosen) for stretch in stretches)


def fitting_around(n, sets):
    """All orders around that fit the sets."""
    return [order for order in orders_of(n)
            if order[0] == 0 and all(is_together_around(order, chosen) for chosen in sets)]


def leaves(tree):
    """The things of a tree as they stand."""
    if isinstance(tree, int):
        return [tree]
    return [thing for part in tree[1] for thing in leaves(part)]


def arrangements(tree):
    """Point 2.2: the sequences in which the parts may stand, in ascending order of their indexes."""
    word, parts = tree
    indexes = tuple(range(len(parts)))
    if word == "any":
        return list(permutations(indexes))
    return [indexes, indexes[::-1]]


def told(tree):
    """All orders that the tree tells (point 2.2); those of a normal form in the sequence of point 2.5."""
    if isinstance(tree, int):
        return [(tree,)]
    choices = list(product(*[told(part) for part in tree[1]]))
    return [tuple(chain.from_iterable(choice[index] for index in indexes))
            for indexes in arrangements(tree) for choice in choices]


def partings(things):
    """All ways to part a tuple of things into blocks."""
    if not things:
        return [[]]
    ways = []
    for way in partings(things[1:]):
        ways.append([(things[0],)] + way)
        for at, block in enumerate(way):
            ways.append([(things[0],) + block] + way[:at] + way[at + 1:])
    return ways


def trees_over(things):
    """All trees in normal form with these things."""
    if len(things) == 1:
        return [things[0]]
    found = []
    for blocks in partings(things):
        if len(blocks) == 1:
            continue
        choices = list(product(*[trees_over(block) for block in blocks]))
        for choice in choices:
            found.append(("any", tuple(sorted(choice, key=lambda part: min(leaves(part))))))
            if len(blocks) > 2:
                found.extend(("row", parts) for parts in permutations(choice)
                             if min(leaves(parts[0])) < min(leaves(parts[-1])))
    return found


def shuffled(tree, random):
    """The same tree, with its parts in another sequence that tells the same."""
    if isinstance(tree, int):
        return tree
    word, parts = tree
    parts = [shuffled(part, random) for part in parts]
    indexes = random.choice(arrangements(tree)) if len(parts) < 7 else range(len(parts))[::-1]
    return (word, tuple(parts[index] for index in indexes))


def deep_any(n):
    """A tree of n things with an "any" of two parts within the other, n - 1 in all."""
    tree = 0
    for thing in range(1, n):
        tree = ("any", (thing, tree))
    return tree


def deep_rows(n):
    """A tree of n things, an odd number, with rows of three parts, one within the other."""
    tree = 0
    for thing in range(1, n, 2):
        tree = ("row", (thing, tree, thing + 1))
    return tree


def is_normal(tree):
    """Point 2.3, for what is known to be a tree."""
    if isinstance(tree, int):
        return True
    word, parts = tree
    least = [min(leaves(part)) for part in parts]
    well = least == sorted(least) if word == "any" else least[0] < least[-1]
    return well and all(is_normal(part) for part in parts)


def are_neighbors(order, a, b):
    """Point 6.1: the two things stand side by side in the order."""
    return (a, b) in zip(order, order[1:]) or (b, a) in zip(order, order[1:])


def is_between(order, a, b, c):
    """Point 6.1: b stands between a and c in the order."""
    return [thing for thing in order if thing in (a, b, c)][1] == b


def distance(order, other):
    """Point 6.2: the number of the pairs of things in another sequence."""
    return sum((order.index(a) < order.index(b)) != (other.index(a) < other.index(b))
               for a, b in combinations(order, 2))


def keeps(order, wishes):
    """Point 6.8: in the order the first thing of each wish stands ahead of the second one."""
    return all(order.index(a) < order.index(b) for a, b in wishes)


def subtrees(tree):
    """The tree itself and the subtrees of its parts."""
    return [tree] + ([] if isinstance(tree, int) else [each for part in tree[1] for each in subtrees(part)])


def is_ring_of(subtree, wishes):
    """Point 6.8: the chosen wishes are a ring with this subtree, which has parts."""
    word, parts = subtree
    places = [tuple(at for thing in wish for at, part in enumerate(parts) if thing in leaves(part)) for wish in wishes]
    if not wishes or any(len(place) != 2 or place[0] == place[1] for place in places):
        return False
    if word == "any":
        return all(places[at - 1][1] == places[at][0] for at in range(len(places)))
    return len(places) == 2 and sorted(first < second for first, second in places) == [False, True]


def is_wish_ring(tree, wishes, indexes):
    """Point 6.8, over all subtrees."""
    if not all(index in range(len(wishes)) for index in indexes):
        return False
    chosen = [wishes[index] for index in indexes]
    return any(is_ring_of(subtree, chosen) for subtree in subtrees(tree) if not isinstance(subtree, int))


def is_paper(sets, value):
    """Point 3.2, condition by condition."""
    word, things, chains = value
    if word != "three" or type(things) is not tuple or type(chains) is not tuple:
        return False
    if len(things) != 3 or len(chains) != 3 or list(things) != sorted(set(things)):
        return False
    a, b, c = things
    for chained, (first, last, third) in zip(chains, ((a, b, c), (a, c, b), (b, c, a))):
        if type(chained) is not tuple or len(chained) == 0:
            return False
        if not all(index in range(len(sets)) for index in chained):
            return False
        links = [set(sets[index]) for index in chained]
        if first not in links[0] or last not in links[-1] or any(third in link for link in links):
            return False
        if not all(link & other for link, other in zip(links, links[1:])):
            return False
    return True


def meetings_of(n):
    """All meetings of n persons."""
    pairs = list(combinations(range(n), 2))
    return [tuple(pair for pair, kept in zip(pairs, choice) if kept) for choice in product((0, 1), repeat=len(pairs))]


def relabelled(pairs, names):
    """The meetings with other numbers for the persons."""
    return tuple(sorted(tuple(sorted((names[i], names[j]))) for i, j in pairs))


def meetings_by(hours):
    """Point 5.1: the meetings that the hours explain."""
    return tuple((i, j) for i, j in combinations(range(len(hours)), 2)
                 if not hours[i][1] < hours[j][0] and not hours[j][1] < hours[i][0])


def under_all_names(n, found):
    """The meetings, and those that they become if the persons have other numbers."""
    return {relabelled(pairs, names) for pairs in found for names in permutations(range(n))}


def explained(n):
    """All meetings of n persons that hours explain; n moments will do."""
    visits = [(come, go) for come in range(n) for go in range(come, n)]
    # Whose hours are which makes no difference but for the numbers of the persons.
    return under_all_names(n, {meetings_by(hours) for hours in combinations_with_replacement(visits, n)})


def equally_explained(n):
    """All meetings of n persons that equal hours explain; the length n will do, and no delay needs to be longer."""
    found = set()
    for delays in product(range(n + 2), repeat=n - 1):
        comes = [sum(delays[:at]) for at in range(n)]
        found.add(meetings_by([(come, come + n) for come in comes]))
    return under_all_names(n, found)


def acquaintances(n, pairs):
    """For each person the set of those whom this one met."""
    return [{i + j - person for i, j in pairs if person in (i, j)} for person in range(n)]


def is_shut_ring(n, pairs, ring):
    """Point 5.2, condition by condition."""
    if type(ring) is not tuple or len(ring) < 4 or len(set(ring)) < len(ring) or not set(ring) <= set(range(n)):
        return False
    met = acquaintances(n, pairs)
    return all(met[person] & set(ring) == {ring[at - 1], ring[(at + 1) % len(ring)]} for at, person in enumerate(ring))


def is_way(n, pairs, way, first, last, third):
    """Point 5.2: the way leads from the first person to the last one, and avoids the third one."""
    if type(way) is not tuple or len(way) == 0 or not set(way) <= set(range(n)):
        return False
    met = acquaintances(n, pairs)
    return (way[0] == first and way[-1] == last and not set(way) & (met[third] | {third})
            and all(other in met[person] for person, other in zip(way, way[1:])))


def avoid(n, pairs, persons, ways):
    """Point 5.2, condition by condition."""
    if len(persons) != 3 or len(set(persons)) != 3 or not set(persons) <= set(range(n)) or len(ways) != 3:
        return False
    a, b, c = persons
    return all(is_way(n, pairs, way, *three) for way, three in zip(ways, ((a, b, c), (a, c, b), (b, c, a))))


def is_claw(n, pairs, person, three):
    """Point 5.3, condition by condition."""
    if len(three) != 3 or len(set(three)) != 3 or not {person, *three} <= set(range(n)):
        return False
    met = acquaintances(n, pairs)
    return set(three) <= met[person] and not any(other in met[one] for one, other in combinations(three, 2))


def reached(met, first, allowed):
    """All persons to whom a way leads on which all persons are allowed."""
    found = {first} & allowed
    while True:
        more = {other for person in found for other in met[person] if other in allowed} | found
        if more == found:
            return found
        found = more


def has_shut_ring(n, pairs):
    """True if some persons, put into some order, are a shut ring."""
    met = acquaintances(n, pairs)
    for many in range(4, n + 1):
        for persons in combinations(range(n), many):
            chosen = set(persons)
            if all(len(met[person] & chosen) == 2 for person in persons) and reached(met, persons[0], chosen) == chosen:
                return True
    return False


def have_avoiding_three(n, pairs):
    """True if some three persons avoid one another."""
    met = acquaintances(n, pairs)
    past = [set(range(n)) - met[person] - {person} for person in range(n)]
    return any(b in reached(met, a, past[c]) and c in reached(met, a, past[b]) and c in reached(met, b, past[a])
               for a, b, c in combinations(range(n), 3))


def has_claw(n, pairs):
    """True if some person and three others are a claw."""
    met = acquaintances(n, pairs)
    return any(b not in met[a] and c not in met[a] | met[b] for beside in met for a, b, c in combinations(beside, 3))


def drawn_hours(n, most, chance):
    """Hours of n persons between 0 and a greatest moment."""
    return tuple(tuple(sorted((chance.randint(0, most), chance.randint(0, most)))) for _ in range(n))


def changed(n, pairs, chance):
    """The meetings with one more or one fewer."""
    pair = tuple(sorted(chance.sample(range(n), 2)))
    return tuple(sorted(set(pairs) ^ {pair}))


def left_of(order, things):
    """The order of these things that is left if all others are left out."""
    return tuple(thing for thing in order if thing in things)


def gap_count(order, chosen):
    """Point 6.9: how many stretches of other things, as long as possible, stand between two things of the set."""
    stretches = [order[low + 1:high] for low, high in combinations(range(len(order)), 2)
                 if order[low] in chosen and order[high] in chosen]
    return sum(len(stretch) > 0 and not set(stretch) & set(chosen) for stretch in stretches)


def some_fits(things, sets):
    """Point 6.5: some order of these things fits the sets, each of them with these things alone."""
    return any(fits(order, sets) for order in permutations(things))


def is_knot(sets, things, indexes):
    """Point 6.5, for a set of things, with each thing and each set left out in turn."""
    if type(indexes) is not tuple or list(indexes) != sorted(set(indexes) & set(range(len(sets)))):
        return False
    chosen = [sets[index] for index in indexes]
    if some_fits(things, chosen):
        return False
    fewer_things = [things[:at] + things[at + 1:] for at in range(len(things))]
    fewer_sets = [chosen[:at] + chosen[at + 1:] for at in range(len(chosen))]
    return (all(some_fits(fewer, chosen) for fewer in fewer_things)
            and all(some_fits(things, fewer) for fewer in fewer_sets))


def greatest_choice(n, sets):
    """Point 6.4: each order fits a choice; of those with the most sets the first one."""
    fitted = [tuple(index for index, chosen in enumerate(sets) if is_together(order, chosen)) for order in orders_of(n)]
    most = max(len(choice) for choice in fitted)
    return min(choice for choice in fitted if len(choice) == most)


def cross(chosen, other):
    """Point 6.6."""
    chosen, other = set(chosen), set(other)
    return bool(chosen & other and chosen - other and other - chosen)


def first_crossing(sets):
    """Point 6.6: the first pair of indexes of sets that cross."""
    found = [pair for pair in combinations(range(len(sets)), 2) if cross(sets[pair[0]], sets[pair[1]])]
    return min(found, default=None)


def holders(sets):
    """Point 6.6: the holder of each set, or None."""
    found = []
    for i, held in enumerate(sets):
        holding = [j for j, chosen in enumerate(sets)
                   if held and set(held) <= set(chosen) and (len(chosen) > len(held) or j < i)]
        fewest = min((len(sets[j]) for j in holding), default=None)
        found.append(max((j for j in holding if len(sets[j]) == fewest), default=None))
    return tuple(found)


def drawn_sets(n, many, chance):
    """So many sets of n things, small ones and great ones."""
    return tuple(tuple(sorted(chance.sample(range(n), chance.randint(0, n)))) for _ in range(many))


def drawn_stretches(n, many, chance):
    """So many sets that stand together in one and the same order of n things."""
    order = chance.sample(range(n), n)
    ends = [sorted(chance.sample(range(n + 1), 2)) for _ in range(many)]
    return tuple(tuple(sorted(order[low:high])) for low, high in ends)


def renamed(tree, names):
    """The tree with other things, as it stands."""
    if isinstance(tree, int):
        return names[tree]
    word, parts = tree
    return (word, tuple(renamed(part, names) for part in parts))


def drawn_nest(things, chance):
    """Sets of which no two cross: of these things, of blocks of them, of blocks of the blocks, and an empty one."""
    if len(things) < 2:
        return [(), things]
    cuts = sorted(chance.sample(range(1, len(things)), chance.randint(1, min(3, len(things) - 1))))
    blocks = [things[low:high] for low, high in zip([0] + cuts, cuts + [len(things)])]
    return [tuple(sorted(things))] + [chosen for block in blocks for chosen in drawn_nest(block, chance)]


def forms(tree):
    """The tree with its parts in each sequence that tells the same."""
    if isinstance(tree, int):
        return [tree]
    word, parts = tree
    choices = list(product(*[forms(part) for part in parts]))
    return [(word, tuple(choice[index] for index in indexes)) for indexes in arrangements(tree) for choice in choices]


def written(tree):
    """Point 7.1: the written form of a tree."""
    if isinstance(tree, int):
        return str(tree)
    word, parts = tree
    inner = " ".join(written(part) for part in parts)
    return "{" + inner + "}" if word == "any" else "[" + inner + "]"


def written_set(chosen):
    """Point 7.1: the written form of a set."""
    return " ".join(map(str, chosen)) if chosen else "-"


def written_table(sets):
    """Point 7.1: the written form of a table."""
    return "\n".join(map(written_set, sets))


def written_pairs(pairs):
    """Point 7.1: the written form of meetings."""
    return "\n".join(str(i) + "-" + str(j) for i, j in pairs)


def edited(text, signs):
    """All texts that differ by one character: one is left out, put in or replaced by one of the signs."""
    found = {text[:at] + text[at + 1:] for at in range(len(text))}
    found |= {text[:at] + sign + text[at:] for at in range(len(text) + 1) for sign in signs}
    found |= {text[:at] + sign + text[at + 1:] for at in range(len(text)) for sign in signs}
    return sorted(found - {text})


def turned(order, turn):
    """Point 6.7: the order with the stretch of these places in reverse order."""
    i, j = turn
    return tuple(order[i + j - at] if i <= at <= j else thing for at, thing in enumerate(order))


def mirrored(tree):
    """The tree with all parts of all its subtrees in reverse."""
    if isinstance(tree, int):
        return tree
    word, parts = tree
    return (word, tuple(mirrored(part) for part in reversed(parts)))
