"""What can be taken back and done again."""


class Acts:
    """The states, one behind the other, to which acts have led."""

    def __init__(self, state):
        self._states = [state]
        self._at = 0

    def state(self):
        """The state now."""
        return self._states[self._at]

    def do(self, state):
        """Do an act that leads to this state; what was taken back cannot be done again."""
        self._at += 1
        self._states[self._at:] = [state]

    def take_back(self):
        """Take back the last act; False if there is none."""
        if self._at == 0:
            return False
        self._at -= 1
        return True

    def do_again(self):
        """Do again what was taken back last; False if there is nothing."""
        if self._at == len(self._states) - 1:
            return False
        self._at += 1
        return True
