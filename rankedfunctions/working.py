"""A function worked with its operands: the base function, or the last modifier on the function below."""

from rankedfunctions.functions import AT, FOLD, SCAN, TABLE, function_below
from rankedfunctions.modifiers import at_of_one, at_of_two, fold_of_one, fold_of_two, scan_of_one, scan_of_two
from rankedfunctions.modifiers import table_of_two
from rankedfunctions.moves_of_one import move_of_one
from rankedfunctions.moves_of_two import move_of_two
from rankedfunctions.scalars import is_scalar_of_one, is_scalar_of_two, scalar_of_one, scalar_of_two

FOLDS_OF_NOTHING = {"+": 0, "Or": 0, "*": 1, "And": 1}


def base_of_one(base, y, tally):
    tally.add_one()
    if is_scalar_of_one(base):
        return scalar_of_one(base, y)
    return move_of_one(base, y)


def base_of_two(base, x, y, tally):
    tally.add_one()
    if is_scalar_of_two(base):
        return scalar_of_two(base, x, y)
    return move_of_two(base, x, y)


def fold_of_nothing(function):
    """What the function's fold of no cells is filled with; None if it's refused."""
    if len(function.modifiers) > 0:
        return None
    return FOLDS_OF_NOTHING.get(function.base)


def work_of_one(function, y, tally):
    """What the function, which may be used with one operand, answers of y."""
    if len(function.modifiers) == 0:
        return base_of_one(function.base, y, tally)
    below = function_below(function)
    word = function.modifiers[-1][0]
    rank = function.modifiers[-1][1]

    def below_of_one(cell, its_tally):
        return work_of_one(below, cell, its_tally)

    def below_of_two(left, right, its_tally):
        return work_of_two(below, left, right, its_tally)

    if word == AT:
        return at_of_one(below_of_one, rank, y, tally)
    if word == TABLE:
        return at_of_one(below_of_one, 0, y, tally)
    if word == FOLD:
        return fold_of_one(below_of_two, fold_of_nothing(below), y, tally)
    if word == SCAN:
        return scan_of_one(below_of_two, y, tally)
    return below_of_two(y, y, tally)


def work_of_two(function, x, y, tally):
    """What the function, which may be used with two operands, answers of x and y."""
    if len(function.modifiers) == 0:
        return base_of_two(function.base, x, y, tally)
    below = function_below(function)
    word = function.modifiers[-1][0]
    rank = function.modifiers[-1][1]

    def below_of_two(left, right, its_tally):
        return work_of_two(below, left, right, its_tally)

    if word == AT:
        return at_of_two(below_of_two, rank, x, y, tally)
    if word == TABLE:
        return table_of_two(below_of_two, x, y, tally)
    if word == FOLD:
        return fold_of_two(below_of_two, x, y, tally)
    if word == SCAN:
        return scan_of_two(below_of_two, x, y, tally)
    return below_of_two(y, x, tally)
