"""A book that keeps a table."""

from unpartedrows.acts import Acts
from unpartedrows.errors import OutOfRange
from unpartedrows.papers import paper_for
from unpartedrows.reducing import tree_of
from unpartedrows.tables import MOST_SETS, check_order, check_set, check_things, first_parted


class Book:
    """A table of n things that acts change, one set at a time; OutOfRange if n is not 1 to 24."""

    def __init__(self, n):
        self.n = check_things(n)
        self._acts = Acts(())

    def _check_index(self, index):
        """OutOfRange if no set has this index."""
        if index not in range(len(self.sets())):
            raise OutOfRange("no set of the book has this index")

    def add(self, chosen):
        """Put a set behind the others; InvalidTable if it is none, OutOfRange if there are 40 sets."""
        check_set(self.n, chosen)
        sets = self.sets()
        if len(sets) == MOST_SETS:
            raise OutOfRange("the book has 40 sets")
        self._acts.do(sets + (chosen,))

    def drop(self, index):
        """Leave out the set with this index; OutOfRange if there is none."""
        self._check_index(index)
        sets = self.sets()
        self._acts.do(sets[:index] + sets[index + 1:])

    def put(self, index, chosen):
        """Put a set in place of the one with this index; OutOfRange if there is none, InvalidTable if it is no set."""
        self._check_index(index)
        check_set(self.n, chosen)
        sets = self.sets()
        self._acts.do(sets[:index] + (chosen,) + sets[index + 1:])

    def undo(self):
        """Take back the last act; False if there is nothing to take back."""
        return self._acts.take_back()

    def redo(self):
        """Do again the act that was taken back last; False if there is nothing to do again."""
        return self._acts.do_again()

    def sets(self):
        """The table."""
        return self._acts.state()

    def tree(self):
        """The tree of the table, or None."""
        return tree_of(self.n, self.sets())

    def answer(self):
        """The tree of the table, with the word for it, or a paper for the table."""
        tree = self.tree()
        if tree is None:
            return paper_for(self.n, self.sets())
        return ("tree", tree)

    def fits(self, order):
        """True if the order fits the table; InvalidOrder if it is none."""
        check_order(self.n, order)
        return first_parted(order, self.sets()) is None
