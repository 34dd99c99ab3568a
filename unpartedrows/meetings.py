"""A book of meetings, and the written form of meetings."""

from itertools import combinations

from unpartedrows.acts import Acts
from unpartedrows.equals import equal_visits
from unpartedrows.errors import InvalidMeetings
from unpartedrows.graphs import check_meetings
from unpartedrows.tables import MOST_THINGS, check_things
from unpartedrows.text import read_ascending
from unpartedrows.visits import visits


class Meetings:
    """The meetings of n persons, which acts change, one meeting at a time; OutOfRange if n is not 1 to 24."""

    def __init__(self, n):
        self._n = check_things(n)
        self._acts = Acts(())

    def meet(self, i, j):
        """Add a meeting; False if it was there already, InvalidMeetings if the numbers are none."""
        check_meetings(self._n, ((i, j),))
        if (i, j) in self.pairs():
            return False
        self._acts.do(tuple(sorted(self.pairs() + ((i, j),))))
        return True

    def forget(self, i, j):
        """Leave out a meeting; False if it was not there, InvalidMeetings if the numbers are none."""
        check_meetings(self._n, ((i, j),))
        if (i, j) not in self.pairs():
            return False
        self._acts.do(tuple([pair for pair in self.pairs() if pair != (i, j)]))
        return True

    def undo(self):
        """Take back the last act; False if there is nothing to take back."""
        return self._acts.take_back()

    def redo(self):
        """Do again the act that was taken back last; False if there is nothing to do again."""
        return self._acts.do_again()

    def pairs(self):
        """The meetings, in ascending order."""
        return self._acts.state()

    def visits(self):
        """What the function of this name tells for the meetings."""
        return visits(self._n, self.pairs())

    def equal_visits(self):
        """What the function of this name tells for the meetings."""
        return equal_visits(self._n, self.pairs())


def written_pair(pair):
    """The line for a meeting."""
    i, j = pair
    return f"{i}-{j}"


def write_pairs(pairs):
    """The written form of meetings of 24 persons; InvalidMeetings if they are none."""
    check_meetings(MOST_THINGS, pairs)
    return "\n".join([written_pair(pair) for pair in pairs])


def read_pairs(n, text):
    """The meetings of n persons that are written so; InvalidMeetings if there are none, or if n is not 1 to 24."""
    check_meetings(n, ())
    if not text:
        return ()
    known = {written_pair(pair): pair for pair in combinations(range(n), 2)}
    found = read_ascending(known, text.split("\n"))
    if found is None:
        raise InvalidMeetings("the text is no meetings of so many persons")
    return found
