"""The calls: each takes lists of whole numbers and gives back a list of whole numbers."""

from rankedfunctions.functions import plain_text, read_function
from rankedfunctions.refusals import FUNCTION, LONG, NoFunction, TooLong


def where(f):
    """0 if f is a function's text, else 1 more than the place where it can't go on."""
    try:
        read_function(f)
    except TooLong:
        return [LONG]
    except NoFunction as fault:
        return [fault.place + 1]
    return [0]


def plain(f):
    """0 and the plain text of the function whose text f is."""
    try:
        function = read_function(f)
    except TooLong:
        return [LONG]
    except NoFunction:
        return [FUNCTION]
    return [0] + plain_text(function)
