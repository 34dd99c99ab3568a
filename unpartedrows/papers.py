"""Papers: what shows that no order fits a table."""

from itertools import combinations

from unpartedrows.tables import check_table, have_common


def is_chain(sets, chain, first, last, left_out):
    """True if the tuple is a chain for the first and the last thing that leaves out the third one."""
    # An index below 0 would be taken from the end of the table.
    if not chain or min(chain) < 0 or max(chain) >= len(sets):
        return False
    links = [sets[index] for index in chain]
    if first not in links[0] or last not in links[-1]:
        return False
    if any([left_out in chosen for chosen in links]):
        return False
    return all([have_common(chosen, other) for chosen, other in zip(links, links[1:])])


def is_paper(n, sets, value):
    """True if the value is a paper for the table."""
    check_table(n, sets)
    if len(value) != 3 or value[0] != "three":
        return False
    _, things, chains = value
    if len(things) != 3 or len(chains) != 3:
        return False
    a, b, c = things
    if not a < b < c:
        return False
    return (is_chain(sets, chains[0], a, b, c)
            and is_chain(sets, chains[1], a, c, b)
            and is_chain(sets, chains[2], b, c, a))


def linked_without(n, sets, left_out):
    """For each thing a number, the same for two things if sets without the left-out one link them."""
    numbers = list(range(n))
    for chosen in sets:
        if chosen and left_out not in chosen:
            joined = [numbers[thing] for thing in chosen]
            numbers = [joined[0] if number in joined else number for number in numbers]
    return numbers


def chain_between(sets, first, last, left_out):
    """A shortest chain for two linked things that leaves out the third one."""
    unused = [index for index, chosen in enumerate(sets) if left_out not in chosen]
    chains = [(index,) for index in unused if first in sets[index]]
    unused = [index for index in unused if first not in sets[index]]
    at = 0
    while last not in sets[chains[at][-1]]:
        chain = chains[at]
        added = [index for index in unused if have_common(sets[chain[-1]], sets[index])]
        unused = [index for index in unused if index not in added]
        chains.extend([chain + (index,) for index in added])
        at += 1
    return chains[at]


def found_paper(n, sets):
    """A paper for the sets, however many they are, or None if some order fits."""
    linked = [linked_without(n, sets, left_out) for left_out in range(n)]
    for a, b, c in combinations(range(n), 3):
        if linked[c][a] == linked[c][b] and linked[b][a] == linked[b][c] and linked[a][b] == linked[a][c]:
            chains = (chain_between(sets, a, b, c), chain_between(sets, a, c, b), chain_between(sets, b, c, a))
            return ("three", (a, b, c), chains)
    return None


def paper_for(n, sets):
    """A paper for the table, or None if some order fits."""
    check_table(n, sets)
    return found_paper(n, sets)
