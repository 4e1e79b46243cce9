"""Reads the boxes, edges and wishes that a text's tokens tell."""

from crossings.faults import Fault

MOST_BOXES = 24
MOST_EDGES = 40
MOST_WISHES = 16
WIDEST = 30
LOWEST = 3
HIGHEST = 9


class Statements:
    """What a text tells, its names still as tokens, for faults that are found later need their places.

    A box is its name, its width, its height; an edge its two names and its label's name or None; a wish its
    two names.
    """

    def __init__(self):
        self.boxes = []
        self.edges = []
        self.wishes = []


class Reader:
    """Goes through tokens from left to right; the last one is the end and is never taken."""

    def __init__(self, tokens):
        self.tokens = tokens
        self.at = 0

    def ahead(self):
        """The token that comes next."""
        return self.tokens[self.at]

    def take(self, kind):
        """Goes past the next token and gives it, if it is of this kind; else raises fault 3."""
        token = self.ahead()
        if token.kind != kind:
            raise Fault(3, token.place)
        self.at += 1
        return token

    def take_within(self, least, greatest):
        """Goes past the next token, a number within bounds, and gives its value; else raises fault 3 or 7."""
        token = self.take("number")
        if token.value < least or token.value > greatest:
            raise Fault(7, token.place)
        return token.value


def read_statements(tokens):
    """All statements of a text; raises fault 3, 4 or 7, whichever comes first from left to right."""
    reader = Reader(tokens)
    told = Statements()
    while reader.ahead().kind != "end":
        word = reader.ahead().kind
        if word == "box":
            read_box(reader, told.boxes)
        elif word == "edge":
            read_edge(reader, told.edges)
        elif word == "above":
            read_wish(reader, told.wishes)
        else:
            raise Fault(3, reader.ahead().place)
    return told


def take_word(reader, word, before, most):
    """Goes past a statement's word; raises fault 4 if as many as may be stand before it."""
    token = reader.take(word)
    if len(before) == most:
        raise Fault(4, token.place)


def read_box(reader, boxes):
    take_word(reader, "box", boxes, MOST_BOXES)
    name = reader.take("name")
    width = len(name.value) + 4
    height = LOWEST
    if reader.ahead().kind == "number":
        width = reader.take_within(len(name.value) + 2, WIDEST)
        height = reader.take_within(LOWEST, HIGHEST)
    reader.take(";")
    boxes.append((name, width, height))


def read_edge(reader, edges):
    take_word(reader, "edge", edges, MOST_EDGES)
    first = reader.take("name")
    reader.take("->")
    second = reader.take("name")
    label = None
    if reader.ahead().kind == ":":
        reader.take(":")
        label = reader.take("name").value
    reader.take(";")
    edges.append((first, second, label))


def read_wish(reader, wishes):
    take_word(reader, "above", wishes, MOST_WISHES)
    first = reader.take("name")
    second = reader.take("name")
    reader.take(";")
    wishes.append((first, second))
