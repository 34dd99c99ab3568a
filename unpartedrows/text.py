"""The written forms of trees, sets and tables."""

from unpartedrows.errors import InvalidText, InvalidTree
from unpartedrows.tables import MOST_SETS, MOST_THINGS, check_set, check_table, check_things
from unpartedrows.trees import check_tree, normal, things_of

NO_THINGS = "-"
BRACKETS = {"any": ("{", "}"), "row": ("[", "]")}
OPENING = {"{": "any", "[": "row"}
CLOSING = {"}": "any", "]": "row"}


def written_number(number):
    """A number from 0 on in decimal digits."""
    digits = ""
    # Python refuses to write very long numbers at once.
    while number >= 10 ** 64:
        number, rest = divmod(number, 10 ** 64)
        digits = str(rest).zfill(64) + digits
    return str(number) + digits


def written_tree(tree):
    """The written form of what is known to be a tree."""
    if isinstance(tree, int):
        return written_number(tree)
    word, parts = tree
    opening, closing = BRACKETS[word]
    return opening + " ".join([written_tree(part) for part in parts]) + closing


def write_tree(tree):
    """The written form of a tree, with its parts as they stand; InvalidTree if it is none."""
    things_of(tree)
    return written_tree(tree)


def write_set(chosen):
    """The written form of a set of 24 things; InvalidTable if it is none."""
    check_set(MOST_THINGS, chosen)
    if not chosen:
        return NO_THINGS
    return " ".join([str(thing) for thing in chosen])


def write_table(sets):
    """The written form of a table of 24 things; InvalidTable if it is none."""
    check_table(MOST_THINGS, sets)
    return "\n".join([write_set(chosen) for chosen in sets])


def known_words(n):
    """For each written form of one of n things this thing."""
    return {str(thing): thing for thing in range(n)}


def read_ascending(known, words):
    """What the known words stand for, or None if one is unknown or they do not ascend."""
    found = [known.get(word) for word in words]
    if None in found or found != sorted(set(found)):
        return None
    return tuple(found)


def tokens_of(text):
    """The brackets and numbers of a text; where a space is too many or missing, one of the tokens is neither."""
    return text.replace("{", "{ ").replace("[", "[ ").replace("}", " }").replace("]", " ]").split(" ")


def read_value(known, tokens):
    """The value, maybe no tree, that the tokens write; InvalidText if brackets or numbers are wrong."""
    words = []
    # The parts of each tree that is not closed yet, behind a list for the whole value.
    levels = [[]]
    for token in tokens:
        if token in OPENING:
            words.append(OPENING[token])
            levels.append([])
        elif token in known:
            levels[-1].append(known[token])
        elif words and CLOSING.get(token) == words[-1]:
            parts = levels.pop()
            levels[-1].append((words.pop(), tuple(parts)))
        else:
            raise InvalidText("something in the text is no thing and no bracket that fits there")
    if words or len(levels[0]) != 1:
        raise InvalidText("the text is not one tree")
    return levels[0][0]


def read_tree(n, text):
    """The normal form of the tree over n things that is written so; InvalidText if there is none."""
    check_things(n)
    value = read_value(known_words(n), tokens_of(text))
    try:
        check_tree(n, value)
    except InvalidTree:
        raise InvalidText("the text is no tree over so many things") from None
    return normal(value)


def read_set(n, text):
    """The set of n things that is written so; InvalidText if there is none."""
    check_things(n)
    if text == NO_THINGS:
        return ()
    found = read_ascending(known_words(n), text.split(" "))
    if found is None:
        raise InvalidText("the text is no set of so many things")
    return found


def read_table(n, text):
    """The table of n things that is written so; InvalidText if there is none."""
    check_things(n)
    if not text:
        return ()
    lines = text.split("\n")
    if len(lines) > MOST_SETS:
        raise InvalidText("a table has at most 40 lines")
    return tuple([read_set(n, line) for line in lines])
