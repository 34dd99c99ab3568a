"""Trees that tell only those orders in which given sets stand together."""

from unpartedrows.tables import check_set, check_table
from unpartedrows.trees import arranged, check_own_tree, check_tree, plain_tree, sets_of

# They ascend, so that parts that lean from empty to full have ascending fills.
EMPTY = 0
PARTLY = 1
FULL = 2


def fill_of(tree, chosen):
    """Whether none, some or all things of a tree are chosen."""
    if isinstance(tree, int):
        return FULL if tree in chosen else EMPTY
    fills = fills_of(tree[1], chosen)
    if fills.count(fills[0]) == len(fills):
        return fills[0]
    return PARTLY


def fills_of(parts, chosen):
    """The fill of each part."""
    return [fill_of(part, chosen) for part in parts]


def filled(parts, chosen, fill):
    """The parts with this fill, in their sequence."""
    return [part for part in parts if fill_of(part, chosen) == fill]


def grouped(parts):
    """At most one tree, in a list, whose orders have the parts in any sequence."""
    if len(parts) < 2:
        return parts
    return [("any", tuple(parts))]


def leaning_parts(tree, chosen):
    """The parts of a row that leans from empty to full as far as a tree that is partly chosen can."""
    word, parts = tree
    if word == "any":
        empty = grouped(filled(parts, chosen, EMPTY))
        full = grouped(filled(parts, chosen, FULL))
        return empty + filled(parts, chosen, PARTLY) + full
    if fill_of(parts[0], chosen) > fill_of(parts[-1], chosen):
        return list(parts[::-1])
    return list(parts)


def leaned(tree, chosen):
    """Trees, side by side in a row, for the orders with all chosen things at the end; None if there are none."""
    if fill_of(tree, chosen) != PARTLY:
        return [tree]
    parts = leaning_parts(tree, chosen)
    fills = fills_of(parts, chosen)
    if fills != sorted(fills) or fills.count(PARTLY) > 1:
        return None
    row = []
    for part in parts:
        piece = leaned(part, chosen)
        if piece is None:
            return None
        row.extend(piece)
    return row


def leaned_row(first, full, last, chosen):
    """A row in which the first tree leans to the full ones and the last one away from them, or None.

    The last tree may be None: then the row ends with the full ones.
    """
    up = leaned(first, chosen)
    down = [] if last is None else leaned(last, chosen)
    if up is None or down is None:
        return None
    return up + full + down[::-1]


def any_together(parts, chosen):
    """The tree for an "any" with these parts, of which several are not empty or one is full, or None."""
    partly = filled(parts, chosen, PARTLY)
    if len(partly) > 2:
        return None
    middle = grouped(filled(parts, chosen, FULL))
    if partly:
        row = leaned_row(partly[0], middle, partly[1] if len(partly) == 2 else None, chosen)
        if row is None:
            return None
        middle = [("row", tuple(row))]
    return grouped(filled(parts, chosen, EMPTY) + middle)[0]


def row_together(parts, chosen):
    """The tree for a "row" with these parts, of which several are not empty or one is full, or None."""
    touched = [at for at, fill in enumerate(fills_of(parts, chosen)) if fill != EMPTY]
    low = touched[0]
    high = touched[-1]
    middle = list(parts[low + 1:high])
    if filled(middle, chosen, FULL) != middle:
        return None
    row = leaned_row(parts[low], middle, parts[high] if high > low else None, chosen)
    if row is None:
        return None
    return ("row", parts[:low] + tuple(row) + parts[high + 1:])


def within_part(tree, index, chosen):
    """The tree with one part narrowed, or None; all chosen things are in this part."""
    word, parts = tree
    part = together(parts[index], chosen)
    if part is None:
        return None
    return (word, parts[:index] + (part,) + parts[index + 1:])


def together(tree, chosen):
    """The tree that tells those orders of a tree in which the chosen things stand together, or None."""
    if fill_of(tree, chosen) != PARTLY:
        return tree
    word, parts = tree
    fills = fills_of(parts, chosen)
    if fills.count(PARTLY) == 1 and FULL not in fills:
        return within_part(tree, fills.index(PARTLY), chosen)
    if word == "any":
        return any_together(parts, chosen)
    return row_together(parts, chosen)


def all_together(tree, sets):
    """The normal form of the tree for those orders of a tree in which all sets stand together, or None."""
    for chosen in sets:
        tree = together(tree, chosen)
        if tree is None:
            return None
    return arranged(tree)


def reduced(tree, chosen):
    """The tree reduced by a set, or None."""
    check_set(check_own_tree(tree), chosen)
    return all_together(tree, (chosen,))


def tree_of(n, sets):
    """The tree of a table, or None."""
    check_table(n, sets)
    return all_together(plain_tree(n), sets)


def common(tree, other):
    """The common tree of two trees over the same things, or None."""
    check_tree(check_own_tree(tree), other)
    return all_together(tree, sets_of(other))
