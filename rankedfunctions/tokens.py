"""The tokens of a function's text: words, modifier words, numbers, signs."""

BLANKS = (32, 9, 10, 13)
COLON = 58

# The first that fits is taken, so a sign of two bytes stands before its first byte alone.
SIGNS = ("<=", "/=", "+", "-", "*", "<", "=")


class Token:
    """Where a token begins and ends, and its bytes: none where no token can be read."""

    def __init__(self, begin, spelling):
        self.begin = begin
        self.spelling = spelling
        self.end = begin + len(spelling)


def bytes_of(name):
    return [ord(letter) for letter in name]


def is_blank(byte):
    return byte in BLANKS


def is_letter(byte):
    return 65 <= byte <= 90 or 97 <= byte <= 122


def is_digit(byte):
    return 48 <= byte <= 57


def past_run(text, place, belongs):
    """The first place from the given one on whose byte doesn't belong, or the text's length."""
    while place < len(text) and belongs(text[place]):
        place = place + 1
    return place


def past_modifier_word(text, place):
    end = past_run(text, place + 1, is_letter)
    if end == place + 1:
        return place
    return end


def past_sign(text, place):
    for sign in SIGNS:
        end = place + len(sign)
        if text[place:end] == bytes_of(sign):
            return end
    return place


def past_token(text, place):
    """Where the token that begins at the place ends: the place itself if no token can be read there."""
    if place == len(text):
        return place
    byte = text[place]
    if is_letter(byte):
        return past_run(text, place, is_letter)
    if is_digit(byte):
        return past_run(text, place, is_digit)
    if byte == COLON:
        return past_modifier_word(text, place)
    return past_sign(text, place)


def token_from(text, place):
    """The first token from the place on, behind blanks; at the text's end one that begins there and has no bytes."""
    begin = past_run(text, place, is_blank)
    return Token(begin, text[begin:past_token(text, begin)])
