"""Cuts a text, a list of bytes, into its tokens."""

from crossings.faults import Fault

BLANKS = (9, 10, 32)
LINE_FEED = 10
REMARK = 35
ZERO = 48
WORDS = ("box", "edge", "above", "group")
SIGNS = ("{", "}", ";", ":", "->")
LONGEST_NAME = 16
GREATEST_NUMBER = 1000000000


class Token:
    """A token: its kind, its value, its place and the place behind it.

    A word's or a sign's kind is the word or the sign; else it is "name" (its value a tuple of bytes),
    "number" or "end". The end of a text is its last token, so that a text that stops too early has a
    token that is not allowed where it stands.
    """

    def __init__(self, kind, value, place, behind):
        self.kind = kind
        self.value = value
        self.place = place
        self.behind = behind


def codes(written):
    """The bytes of a written text, as a list."""
    return [ord(sign) for sign in written]


def is_letter(byte):
    return 97 <= byte <= 122 or 65 <= byte <= 90


def is_digit(byte):
    return 48 <= byte <= 57


def scan(text):
    """All tokens of a text, in order, the end behind them; raises fault 2."""
    tokens = []
    place = skip(text, 0)
    while place < len(text):
        token = token_at(text, place)
        tokens.append(token)
        place = skip(text, token.behind)
    tokens.append(Token("end", None, len(text), len(text)))
    return tokens


def skip(text, start):
    """The first place from start on that is in no blank and in no remark."""
    place = start
    while place < len(text) and (text[place] in BLANKS or text[place] == REMARK):
        if text[place] == REMARK:
            place = remark_end(text, place)
        else:
            place += 1
    return place


def remark_end(text, start):
    """The place of the line feed that ends a remark, or the text's end."""
    place = start
    while place < len(text) and text[place] != LINE_FEED:
        place += 1
    return place


def token_at(text, place):
    if is_letter(text[place]):
        return name_token(text, place)
    if is_digit(text[place]):
        return number_token(text, place)
    return sign_token(text, place)


def name_token(text, place):
    behind = place
    while behind < len(text) and (is_letter(text[behind]) or is_digit(text[behind])):
        behind += 1
    if behind - place > LONGEST_NAME:
        raise Fault(2, place)
    name = text[place:behind]
    for word in WORDS:
        if name == codes(word):
            return Token(word, None, place, behind)
    return Token("name", tuple(name), place, behind)


def number_token(text, place):
    behind = place
    value = 0
    while behind < len(text) and is_digit(text[behind]):
        value = value * 10 + text[behind] - ZERO
        behind += 1
    if value > GREATEST_NUMBER or (text[place] == ZERO and behind - place > 1):
        raise Fault(2, place)
    return Token("number", value, place, behind)


def sign_token(text, place):
    for sign in SIGNS:
        behind = place + len(sign)
        if text[place:behind] == codes(sign):
            return Token(sign, None, place, behind)
    raise Fault(2, place)
