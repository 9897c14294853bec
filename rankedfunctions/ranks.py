"""The calls: each takes lists of whole numbers and gives back a list of whole numbers."""

from rankedfunctions.arrays import handed_array
from rankedfunctions.functions import may_with_one, may_with_two, plain_text, read_function, uses_of
from rankedfunctions.refusals import LONG, NoFunction, NoSuchUse, TooLong, answer_of
from rankedfunctions.tallies import Tally
from rankedfunctions.working import work_of_one, work_of_two


def where(f):
    """0 if f is a function's text, else 1 more than the place where it can't go on."""
    try:
        read_function(f)
    except TooLong:
        return [LONG]
    except NoFunction as fault:
        return [fault.place + 1]
    return [0]


def plain(f):
    """0 and the plain text of the function whose text f is."""
    return answer_of(lambda: [0] + plain_text(read_function(f)))


def uses(f):
    """1 if the function may be used with one operand, and 2 more if it may with two."""
    return answer_of(lambda: [uses_of(read_function(f))])


def answered_array(array):
    return [0, len(array.shape)] + array.shape + [len(array.data)] + array.data


def worked_with_one(f, y_shape, y_data, tally):
    function = read_function(f)
    y = handed_array(y_shape, y_data)
    if not may_with_one(uses_of(function)):
        raise NoSuchUse()
    return work_of_one(function, y, tally)


def worked_with_two(f, x_shape, x_data, y_shape, y_data, tally):
    function = read_function(f)
    x = handed_array(x_shape, x_data)
    y = handed_array(y_shape, y_data)
    if not may_with_two(uses_of(function)):
        raise NoSuchUse()
    return work_of_two(function, x, y, tally)


def one(f, y_shape, y_data):
    """0 and the array that the function answers of y."""
    return answer_of(lambda: answered_array(worked_with_one(f, y_shape, y_data, Tally())))


def two(f, x_shape, x_data, y_shape, y_data):
    """0 and the array that the function answers of x and y."""
    return answer_of(lambda: answered_array(worked_with_two(f, x_shape, x_data, y_shape, y_data, Tally())))


def tallied_with_one(f, y_shape, y_data):
    tally = Tally()
    worked_with_one(f, y_shape, y_data, tally)
    return [0, tally.worked]


def tally1(f, y_shape, y_data):
    """0 and how often the base function was worked where one answers an array."""
    return answer_of(lambda: tallied_with_one(f, y_shape, y_data))


def tallied_with_two(f, x_shape, x_data, y_shape, y_data):
    tally = Tally()
    worked_with_two(f, x_shape, x_data, y_shape, y_data, tally)
    return [0, tally.worked]


def tally2(f, x_shape, x_data, y_shape, y_data):
    """0 and how often the base function was worked where two answers an array."""
    return answer_of(lambda: tallied_with_two(f, x_shape, x_data, y_shape, y_data))
