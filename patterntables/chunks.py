"""What margins, words and patterns tell, chunk by chunk.

Each of these functions answers None for a chunk that is not as told.
"""

from patterntables.tokens import HYPHEN, POINT, is_digit, is_letter

GREATEST_MARGIN = 5
FEWEST_LETTERS = 2
MOST_LETTERS = 16
MOST_PATTERN_LETTERS = 6

# Stands for a point in a pattern's signs, and for both ends of a word.
EDGE = 0


class Entry:
    """Signs, and the digits that stand where they end."""

    def __init__(self, signs, digits):
        self.signs = signs
        self.digits = digits


def margin_of(chunk):
    """The margin that a chunk tells."""
    if len(chunk) != 1 or not is_digit(chunk[0]):
        return None
    margin = chunk[0] - 48
    return margin if margin <= GREATEST_MARGIN else None


def are_word_letters(row):
    """Whether these are as many small letters as a word has."""
    if len(row) < FEWEST_LETTERS or len(row) > MOST_LETTERS:
        return False
    return all([is_letter(byte) for byte in row])


def stands_between_letters(chunk, place):
    """Whether there's a letter on both sides of this place."""
    if place == 0 or place + 1 == len(chunk):
        return False
    return is_letter(chunk[place - 1]) and is_letter(chunk[place + 1])


def word_letters(chunk):
    """The letters of a word's chunk."""
    for place, byte in enumerate(chunk):
        if byte == HYPHEN and not stands_between_letters(chunk, place):
            return None
    letters = [byte for byte in chunk if byte != HYPHEN]
    return letters if are_word_letters(letters) else None


def entry_of_body(body):
    """The entry of a pattern without its points."""
    letters = []
    digits = [0]
    for byte in body:
        if is_letter(byte):
            letters.append(byte)
            digits.append(0)
        elif is_digit(byte) and byte != 48 and digits[-1] == 0:
            digits[-1] = byte - 48
        else:
            return None
    if len(letters) == 0 or len(letters) > MOST_PATTERN_LETTERS or max(digits) == 0:
        return None
    return Entry(tuple(letters), tuple(digits))


def pattern_entry(chunk):
    """The entry of a pattern's chunk."""
    begin = 0
    end = len(chunk)
    front = ()
    back = ()
    if begin < end and chunk[begin] == POINT:
        begin += 1
        front = (EDGE,)
    if begin < end and chunk[end - 1] == POINT:
        end -= 1
        back = (EDGE,)
    entry = entry_of_body(chunk[begin:end])
    if entry is None:
        return None
    return Entry(front + entry.signs + back, entry.digits)
