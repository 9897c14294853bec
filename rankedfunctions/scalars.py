"""The scalar functions: worked for each element, or for each pair of elements."""

from rankedfunctions.agreement import longer_shape, pairs_of
from rankedfunctions.arrays import Array
from rankedfunctions.refusals import ByZero, NumberTooBig, OutsideDomain

BIGGEST = 1000000000000000000


def as_number(holds):
    """1 or 0: what's answered is never True or False."""
    if holds:
        return 1
    return 0


def not_too_big(number):
    if abs(number) > BIGGEST:
        raise NumberTooBig()
    return number


def check_division(b):
    if b == 0:
        raise ByZero()


def check_truths(numbers):
    for number in numbers:
        if number != 0 and number != 1:
            raise OutsideDomain()


def negative(a):
    return -a


def without_sign(a):
    return abs(a)


def sign_of(a):
    return as_number(a > 0) - as_number(a < 0)


def opposite(a):
    check_truths([a])
    return 1 - a


def plus(a, b):
    return not_too_big(a + b)


def minus(a, b):
    return not_too_big(a - b)


def times(a, b):
    return not_too_big(a * b)


def divided(a, b):
    check_division(b)
    return a // b


def modulo(a, b):
    check_division(b)
    return a % b


def smaller(a, b):
    return min(a, b)


def greater(a, b):
    return max(a, b)


def is_less(a, b):
    return as_number(a < b)


def is_at_most(a, b):
    return as_number(a <= b)


def is_equal(a, b):
    return as_number(a == b)


def is_another(a, b):
    return as_number(a != b)


def both(a, b):
    check_truths([a, b])
    return min(a, b)


def at_least_one(a, b):
    check_truths([a, b])
    return max(a, b)


OF_ONE = {"-": negative, "Abs": without_sign, "Sign": sign_of, "Not": opposite}

OF_TWO = {
    "+": plus, "-": minus, "*": times, "Div": divided, "Mod": modulo, "Min": smaller, "Max": greater,
    "<": is_less, "<=": is_at_most, "=": is_equal, "/=": is_another, "And": both, "Or": at_least_one,
}


def is_scalar_of_one(name):
    return name in OF_ONE


def is_scalar_of_two(name):
    return name in OF_TWO


def scalar_of_one(name, y):
    work = OF_ONE[name]
    return Array(y.shape, [work(a) for a in y.data])


def scalar_of_two(name, x, y):
    work = OF_TWO[name]
    shape = longer_shape(x.shape, y.shape)
    return Array(shape, [work(a, b) for a, b in pairs_of(x.shape, x.data, y.shape, y.data)])
