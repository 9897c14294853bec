"""Functions' texts, and others, for the tests of where, plain and uses."""

import itertools
import re

BASES = (
    "Shape Count Ravel Iota Flip Turn Grade Where First "
    "Reshape Take Drop Rotate Join Pick Find Same Keep "
    "- Abs Sign Not + * Div Mod Min Max < <= = /= And Or"
).split()
PLAIN_MODIFIERS = [":fold", ":scan", ":table", ":swap"]
MODIFIERS = PLAIN_MODIFIERS + [":at " + digit for digit in "012345"]
BLANKS = (32, 9, 10, 13)
LETTERS = tuple(range(65, 91)) + tuple(range(97, 123))
DIGITS = tuple(range(48, 58))

TOKEN = re.compile(r":?[A-Za-z]+|[0-9]+|<=|/=|[-+*<=]")
PIECES = ("+", "<", "=", "/", "Abs", "abs", ":fold", ":at", ":", "5", "6", " ", "\n", "?")


def combined_texts():
    """Every text of up to four pieces, so that neighbours also run into one token."""
    for count in range(5):
        for pieces in itertools.product(PIECES, repeat=count):
            yield "".join(pieces)


def told(text):
    """(what where answers, the plain text), by another way than the program's: one pass of a state and a pattern."""
    place = 0
    state = "base"
    plain = ""
    while True:
        while place < len(text) and text[place] in " \t\n\r":
            place += 1
        if place == len(text):
            return (0, plain) if state == "modifier" else (place + 1, None)
        found = TOKEN.match(text, place)
        token = found.group() if found else ""
        if state == "base" and token in BASES:
            state = "modifier"
        elif state == "modifier" and plain.count(":") < 8 and token in PLAIN_MODIFIERS + [":at"]:
            state = "rank" if token == ":at" else "modifier"
        elif state == "rank" and re.fullmatch("[0-5]", token):
            state = "modifier"
            token = " " + token
        else:
            return (place + 1, None)
        plain += token
        place = found.end()


# Texts that are no function's, and what where answers of each.
FAULTS = (
    ("", 1),
    ("+:fol", 2),
    ("+ 5", 3),
    ("+:at", 5),
    ("+:fold:at 6", 11),
    # the text's end, behind blanks too
    (" ", 2),
    (" \t\n\r", 5),
    ("+:at ", 6),
    ("+:at \r\n", 8),
    ("+:fold:at", 10),
    # no token can be read
    ("?", 1),
    ("  ?", 3),
    ("+?", 2),
    ("+ ?", 3),
    ("+:fold ?", 8),
    ("+:at ?", 6),
    ("+\x00", 2),
    ("+\x0b", 2),
    ("+\xa0", 2),
    ("+\xff", 2),
    ("_Abs", 1),
    ("Abs_", 4),
    ("+:fold_", 7),
    ("\xc4bs", 1),
    # a : with no letter directly behind it
    (":", 1),
    (": fold", 1),
    ("+:", 2),
    ("+: fold", 2),
    ("+::fold", 2),
    ("+:5", 2),
    ("+:fold:", 7),
    ("+:fold: scan", 7),
    ("+:at:", 5),
    # / without =, and signs that aren't one
    ("/", 1),
    ("/ =", 1),
    ("//=", 1),
    ("+/", 2),
    ("+:fold/", 7),
    (">", 1),
    (">=", 1),
    ("!=", 1),
    ("< =", 3),
    ("==", 2),
    ("=<", 2),
    ("<==", 3),
    ("/==", 3),
    ("<-", 2),
    # words that are no base function's, and letters great for small
    ("Foo", 1),
    ("  Foo:fold", 3),
    ("Ab", 1),
    ("Absx", 1),
    ("AbsAbs", 1),
    ("xAbs", 1),
    ("abs", 1),
    ("ABS", 1),
    ("SHape", 1),
    ("reshape", 1),
    ("fold", 1),
    # words behind : that are no modifier's
    ("+:folds", 2),
    ("+:Fold", 2),
    ("+:FOLD", 2),
    ("+:foldscan", 2),
    ("+:At 1", 2),
    ("+:atx 1", 2),
    ("+:fold :tables", 8),
    ("+:Abs", 2),
    # a number or a modifier where the base function is due
    ("5", 1),
    (" 12+", 2),
    (":fold", 1),
    (" :at 1", 2),
    ("0Abs", 1),
    # :at with no number, or with one that it can't have
    ("+:at 6", 6),
    ("+:at6", 5),
    ("+:at 7", 6),
    ("+:at 9", 6),
    ("+:at 00", 6),
    ("+:at 05", 6),
    ("+:at 10", 6),
    ("+:at 55", 6),
    ("+:at 1000000000000000000000", 6),
    ("+:at -1", 6),
    ("+:at +1", 6),
    ("+:at :fold", 6),
    ("+:at:at 1", 5),
    ("+:at Abs", 6),
    ("+:at 1:at", 10),
    ("+:at 1:at 6", 11),
    # a word, a sign or a number where a modifier is due
    ("+ Abs", 3),
    ("+Abs", 2),
    ("Abs Abs", 5),
    ("+ fold", 3),
    ("+ +", 3),
    ("++", 2),
    ("Abs+", 4),
    ("+5", 2),
    ("Abs5", 4),
    ("Abs 5", 5),
    ("+:fold 1", 8),
    ("+:fold1", 7),
    ("+:fold Abs", 8),
    ("+:fold +", 8),
    ("+:at 1 2", 8),
    ("+:at 5 Abs", 8),
    ("+:at 5Abs", 7),
    ("+:at 5-", 7),
    # the first fault counts, also ahead of a byte at which no token can be read
    ("5 ?", 1),
    ("+ 5 ?", 3),
    ("+:fol :at 6", 2),
    # a ninth modifier, whatever it is and whatever stands behind it
    ("+" + ":fold" * 9, 42),
    ("+" + ":fold" * 8 + " :scan", 43),
    ("+" + ":fold" * 12, 42),
    ("+" + ":fold" * 8 + ":at", 42),
    ("+" + ":fold" * 8 + ":at 1", 42),
    ("+" + ":fold" * 8 + ":at 6", 42),
    ("+" + ":fold" * 8 + ":fol", 42),
    ("+" + ":fold" * 8 + ":scan ?", 42),
    ("+" + ":at 5" * 9, 42),
    ("Reshape" + ":table" * 9, 56),
    # behind just 8 modifiers something else, and a fault ahead of the ninth
    ("+" + ":fold" * 8 + " 5", 43),
    ("+" + ":fold" * 8 + "?", 42),
    ("+" + ":fold" * 7 + ":at", 40),
    ("+" + ":fold" * 7 + ":at:fold", 40),
    ("+:fol" + ":fold" * 9, 2),
    ("Foo" + ":fold" * 9, 1),
    # the longest text that is looked at
    (" " * 256, 257),
    (" " * 255 + "?", 256),
    ("+:at" + " " * 252, 257),
    ("a" * 256, 1),
)

# Functions' texts, and the plain text of each.
PLAINS = (
    ("+:fold:at 1", "+:fold:at 1"),
    (" + ", "+"),
    ("\t\r\nAbs\n\t\r ", "Abs"),
    ("+ :fold", "+:fold"),
    ("+:at5", "+:at 5"),
    ("+:at\t\n\r 0", "+:at 0"),
    ("+ :at 3 :fold", "+:at 3:fold"),
    ("+:at 3:fold", "+:at 3:fold"),
    ("+:at3:at2:at0", "+:at 3:at 2:at 0"),
    ("<= :swap", "<=:swap"),
    ("/=:table:swap", "/=:table:swap"),
    ("Join\n:fold\r:scan\t:table :swap :at \n 4", "Join:fold:scan:table:swap:at 4"),
    ("Abs:fold", "Abs:fold"),
    ("-:swap:swap", "-:swap:swap"),
    ("+" + ":fold" * 8, "+" + ":fold" * 8),
    ("+" + " :at\t1" * 8 + " ", "+" + ":at 1" * 8),
    ("Reshape" + ":table" * 8, "Reshape" + ":table" * 8),
    ("Reshape" + "  :table" * 8, "Reshape" + ":table" * 8),
    ("+" + " " * 255, "+"),
    (" " * 255 + "+", "+"),
    ("+:at" + " " * 251 + "5", "+:at 5"),
)

# Texts of more than 256 bytes: functions' and others.
LONGS = (
    "+" + " " * 256,
    " " * 256 + "+",
    " " * 257,
    "?" * 257,
    "a" * 257,
    "+" + ":fold" * 52,
    "?" * 1000,
    "Abs" + "\n" * 997,
)
