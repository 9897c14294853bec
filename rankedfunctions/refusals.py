"""The refusals: their numbers, and the errors that carry them up to a call."""

LONG = -21
FUNCTION = -22


class TooLong(Exception):
    """LONG: the text has more bytes than a function's text may have."""


class NoFunction(Exception):
    """FUNCTION: the text is no function's; place is where it can't go on."""

    def __init__(self, place):
        Exception.__init__(self)
        self.place = place
