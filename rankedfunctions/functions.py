"""A function: read from its text, and written as its plain text."""

from rankedfunctions.refusals import NoFunction, TooLong
from rankedfunctions.tokens import SIGNS, bytes_of, token_from

MOST_BYTES = 256
MOST_MODIFIERS = 8

# Each sign is a base function too: with these words they are 34.
WORDS_OF_ONE = (
    "Shape", "Count", "Ravel", "Iota", "Flip", "Turn", "Grade", "Where", "First", "Abs", "Sign", "Not",
)
WORDS_OF_TWO = (
    "Reshape", "Take", "Drop", "Rotate", "Join", "Pick", "Find", "Same", "Keep",
    "Div", "Mod", "Min", "Max", "And", "Or",
)
FOLD = ":fold"
SCAN = ":scan"
TABLE = ":table"
SWAP = ":swap"
AT = ":at"
MODIFIER_WORDS = (":fold", ":scan", ":table", ":swap", ":at")
RANK_DIGITS = ("0", "1", "2", "3", "4", "5")


# How a function may be used, as one number: with neither is 0, with both the sum.
WITH_ONE = 1
WITH_TWO = 2


class Function:
    """A base function's sign or word, and its modifiers as (word, rank); the rank is None but behind :at."""

    def __init__(self, base, modifiers):
        self.base = base
        self.modifiers = modifiers


def name_among(names, token):
    """The name that the token spells; if it spells none of them, the text can't go on with it."""
    for name in names:
        if bytes_of(name) == token.spelling:
            return name
    raise NoFunction(token.begin)


def read_modifiers(text, place):
    modifiers = []
    token = token_from(text, place)
    while token.begin < len(text):
        if len(modifiers) == MOST_MODIFIERS:
            raise NoFunction(token.begin)
        word = name_among(MODIFIER_WORDS, token)
        rank = None
        if word == AT:
            token = token_from(text, token.end)
            rank = int(name_among(RANK_DIGITS, token))
        modifiers.append((word, rank))
        token = token_from(text, token.end)
    return modifiers


def read_function(text):
    """The function whose text this is, looked at as the calls do: its length first."""
    if len(text) > MOST_BYTES:
        raise TooLong()
    token = token_from(text, 0)
    base = name_among(SIGNS + WORDS_OF_ONE + WORDS_OF_TWO, token)
    return Function(base, read_modifiers(text, token.end))


def plain_text(function):
    """The bytes of the function's plain text."""
    parts = [function.base]
    for modifier in function.modifiers:
        parts.append(modifier[0])
        if modifier[1] is not None:
            parts.append(" " + str(modifier[1]))
    return bytes_of("".join(parts))


def function_below(function):
    """The function that the last modifier is worked on."""
    return Function(function.base, function.modifiers[:-1])


def uses_of_base(base):
    if base == "-":
        return WITH_ONE + WITH_TWO
    if base in WORDS_OF_ONE:
        return WITH_ONE
    return WITH_TWO


def may_with_one(uses):
    return (uses & WITH_ONE) != 0


def may_with_two(uses):
    return (uses & WITH_TWO) != 0


def uses_of(function):
    """With how many operands the function may be used: WITH_ONE and WITH_TWO added up."""
    uses = uses_of_base(function.base)
    for modifier in function.modifiers:
        if modifier[0] in (FOLD, SCAN, SWAP):
            uses = WITH_ONE + WITH_TWO if may_with_two(uses) else 0
    return uses
