"""The errors that the program raises."""


class UnpartedError(ValueError):
    """The base class of all errors of the program."""


class InvalidTable(UnpartedError):
    """A value is no set or no table of so many things."""


class InvalidOrder(UnpartedError):
    """A value is no order of so many things."""


class InvalidTree(UnpartedError):
    """A value is no tree, or none over so many things."""


class InvalidMeetings(UnpartedError):
    """A value is no meetings of so many persons."""


class InvalidText(UnpartedError):
    """A text is no written form."""


class OutOfRange(UnpartedError):
    """A number is not one of those that it may be."""
