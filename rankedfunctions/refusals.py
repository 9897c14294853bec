"""The refusals: their numbers, the errors that carry them up to a call, and what a call answers of them."""

SHAPE = -1
RANK = -2
INDEX = -3
ZERO = -4
BIG = -5
SIZE = -6
DOMAIN = -7
EMPTY = -8
USE = -11
FORM = -20
LONG = -21
FUNCTION = -22


class WrongShape(Exception):
    """SHAPE: shapes don't agree, or a count isn't the one that's asked for."""


class WrongRank(Exception):
    """RANK: an operand has a rank that the function doesn't take."""


class NoSuchCell(Exception):
    """INDEX: a number isn't that of a cell."""


class ByZero(Exception):
    """ZERO: a division by 0."""


class NumberTooBig(Exception):
    """BIG: a number is beyond those that an element can be."""


class NoShape(Exception):
    """SIZE: an array would have a shape that isn't one."""


class OutsideDomain(Exception):
    """DOMAIN: a number isn't one of those that the function takes."""


class NothingToFold(Exception):
    """EMPTY: a fold of no cells has nothing to begin with."""


class NoSuchUse(Exception):
    """USE: the function may not be used with so many operands."""


class NoArray(Exception):
    """FORM: what was handed over is no array."""


class TooLong(Exception):
    """LONG: the text has more bytes than a function's text may have."""


class NoFunction(Exception):
    """FUNCTION: the text is no function's; place is where it can't go on."""

    def __init__(self, place):
        Exception.__init__(self)
        self.place = place


def answer_of(call):
    """What the call gives back, or the number of its refusal alone."""
    try:
        return call()
    except TooLong:
        return [LONG]
    except NoFunction:
        return [FUNCTION]
    except NoArray:
        return [FORM]
    except NoSuchUse:
        return [USE]
    except WrongShape:
        return [SHAPE]
    except WrongRank:
        return [RANK]
    except NoSuchCell:
        return [INDEX]
    except ByZero:
        return [ZERO]
    except NumberTooBig:
        return [BIG]
    except NoShape:
        return [SIZE]
    except OutsideDomain:
        return [DOMAIN]
    except NothingToFold:
        return [EMPTY]
