"""What the scalar functions of two operands answer of two numbers."""

from calls import BIG, BIGGEST, DOMAIN, ZERO

# a, b and a F b, of one F after another.
NUMBERS = (
    ("+", (
        (2, 3, 5), (2, -3, -1), (0, 0, 0), (BIGGEST, 0, BIGGEST), (BIGGEST - 1, 1, BIGGEST),
        (1 - BIGGEST, -1, -BIGGEST), (BIGGEST, -BIGGEST, 0),
    )),
    ("-", (
        (2, 3, -1), (2, -3, 5), (0, 0, 0), (BIGGEST, 0, BIGGEST), (0, BIGGEST, -BIGGEST), (BIGGEST, BIGGEST, 0),
        (-1, -BIGGEST, BIGGEST - 1),
    )),
    ("*", (
        (2, 3, 6), (2, -3, -6), (-2, -3, 6), (0, BIGGEST, 0), (BIGGEST, -1, -BIGGEST),
        (10 ** 9, 10 ** 9, BIGGEST), (-10 ** 9, 10 ** 9, -BIGGEST),
    )),
    ("Div", (
        (7, 2, 3), (-7, 2, -4), (7, -2, -4), (-7, -2, 3), (6, 3, 2), (-6, 3, -2), (6, -3, -2), (-6, -3, 2),
        (0, 5, 0), (0, -5, 0), (1, BIGGEST, 0), (-1, BIGGEST, -1), (1, -BIGGEST, -1), (-1, -BIGGEST, 0),
        (BIGGEST, 1, BIGGEST), (BIGGEST, -1, -BIGGEST), (-BIGGEST, -1, BIGGEST), (BIGGEST - 1, BIGGEST, 0),
        (BIGGEST - 1, 10, 10 ** 17 - 1),
    )),
    ("Mod", (
        (7, 2, 1), (-7, 2, 1), (7, -2, -1), (-7, -2, -1), (7, 3, 1), (-7, 3, 2), (7, -3, -2), (-7, -3, -1),
        (6, 3, 0), (-6, 3, 0), (6, -3, 0), (-6, -3, 0), (0, 5, 0), (0, -5, 0), (1, BIGGEST, 1),
        (-1, BIGGEST, BIGGEST - 1), (1, -BIGGEST, 1 - BIGGEST), (BIGGEST, BIGGEST, 0),
    )),
    ("Min", ((2, 3, 2), (3, 2, 2), (-2, -3, -3), (4, 4, 4), (BIGGEST, -BIGGEST, -BIGGEST))),
    ("Max", ((2, 3, 3), (3, 2, 3), (-2, -3, -2), (4, 4, 4), (BIGGEST, -BIGGEST, BIGGEST))),
    ("<", ((2, 3, 1), (3, 2, 0), (2, 2, 0), (-3, -2, 1), (BIGGEST - 1, BIGGEST, 1))),
    ("<=", ((2, 3, 1), (3, 2, 0), (2, 2, 1), (-3, -2, 1), (BIGGEST, BIGGEST - 1, 0))),
    ("=", ((2, 3, 0), (3, 2, 0), (2, 2, 1), (-2, 2, 0), (BIGGEST, BIGGEST - 1, 0), (BIGGEST, BIGGEST, 1))),
    ("/=", ((2, 3, 1), (3, 2, 1), (2, 2, 0), (-2, 2, 1), (BIGGEST, BIGGEST - 1, 1), (BIGGEST, BIGGEST, 0))),
    ("And", ((0, 0, 0), (0, 1, 0), (1, 0, 0), (1, 1, 1))),
    ("Or", ((0, 0, 0), (0, 1, 1), (1, 0, 1), (1, 1, 1))),
)

# The refusal, and the a and b that meet with it.
REFUSED = (
    ("+", BIG, ((BIGGEST, 1), (1, BIGGEST), (-BIGGEST, -1), (BIGGEST, BIGGEST))),
    ("-", BIG, ((BIGGEST, -1), (-BIGGEST, 1), (1, -BIGGEST), (-BIGGEST, BIGGEST))),
    ("*", BIG, (
        (10 ** 9, 10 ** 9 + 1), (-10 ** 9, 10 ** 9 + 1), (BIGGEST, 10), (BIGGEST, BIGGEST), (BIGGEST, -BIGGEST),
    )),
    ("Div", ZERO, ((5, 0), (0, 0), (-5, 0))),
    ("Mod", ZERO, ((5, 0), (0, 0), (-5, 0))),
    ("And", DOMAIN, ((2, 1), (1, 2), (0, 2), (2, 0), (-1, 0), (0, -1), (2, 2))),
    ("Or", DOMAIN, ((2, 1), (1, 2), (0, 2), (2, 0), (-1, 0), (0, -1), (2, 2))),
)
