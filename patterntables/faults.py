"""The faults of a text that tells no list."""

TEXT_TOO_LONG = 1
NO_TOKEN = 2
NOT_ALLOWED = 3
TOO_MANY = 4
TOLD_BEFORE = 5
NOT_AS_TOLD = 7


class Fault(Exception):
    """What is wrong with a text: a code, and a place in the text."""

    def __init__(self, code, place):
        self.code = code
        self.place = place
