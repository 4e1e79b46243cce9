"""What is wrong with a text that is no diagram."""


class Fault(Exception):
    """A fault of a text: its code, 1 to 9, and its place."""

    def __init__(self, code, place):
        self.code = code
        self.place = place
