"""Lists of margins, words and patterns, read from a text."""

from patterntables.chunks import margin_of, pattern_entry, word_letters
from patterntables.faults import NOT_ALLOWED, NOT_AS_TOLD, TEXT_TOO_LONG, TOLD_BEFORE, TOO_MANY, Fault
from patterntables.tokens import CHUNK, END, SIGN, read_tokens, spelled

LONGEST_TEXT = 4096
MOST_WORDS = 24
MOST_PATTERNS = 40


class PatternList:
    """Margins, the words' letters, and the patterns' entries."""

    def __init__(self):
        self.left = 0
        self.right = 0
        self.words = []
        self.entries = []


class TokenReader:
    """Takes tokens from left to right, and tells the first that is not allowed."""

    def __init__(self, tokens):
        self.tokens = tokens
        self.at = 0

    def stands(self, keyword):
        """Whether the token ahead is this keyword."""
        return self.tokens[self.at].chunk == spelled(keyword)

    def take(self, kind):
        token = self.tokens[self.at]
        if token.kind != kind:
            raise Fault(NOT_ALLOWED, token.place)
        self.at += 1
        return token

    def take_keyword(self, keyword):
        if not self.stands(keyword):
            raise Fault(NOT_ALLOWED, self.tokens[self.at].place)
        return self.take(CHUNK)


def read_margin(reader):
    token = reader.take(CHUNK)
    margin = margin_of(token.chunk)
    if margin is None:
        raise Fault(NOT_AS_TOLD, token.place)
    return margin


def read_margins(reader, held):
    reader.take_keyword("margins")
    held.left = read_margin(reader)
    held.right = read_margin(reader)
    reader.take(SIGN)


def take_behind_keyword(reader, keyword, before, most):
    """The chunk behind a keyword, of which there have been some before."""
    token = reader.take_keyword(keyword)
    if before == most:
        raise Fault(TOO_MANY, token.place)
    return reader.take(CHUNK)


def read_word(reader, held):
    token = take_behind_keyword(reader, "word", len(held.words), MOST_WORDS)
    letters = word_letters(token.chunk)
    if letters is None:
        raise Fault(NOT_AS_TOLD, token.place)
    if letters in held.words:
        raise Fault(TOLD_BEFORE, token.place)
    held.words.append(letters)
    reader.take(SIGN)


def all_signs(entries):
    return [entry.signs for entry in entries]


def with_entry(entries, entry):
    """These entries and one more, which takes the place of the one with the same signs."""
    signs = all_signs(entries)
    if entry.signs not in signs:
        return entries + [entry]
    place = signs.index(entry.signs)
    return entries[:place] + [entry] + entries[place + 1:]


def read_pattern(reader, held):
    token = take_behind_keyword(reader, "pattern", len(held.entries), MOST_PATTERNS)
    entry = pattern_entry(token.chunk)
    if entry is None:
        raise Fault(NOT_AS_TOLD, token.place)
    if entry.signs in all_signs(held.entries):
        raise Fault(TOLD_BEFORE, token.place)
    held.entries.append(entry)
    reader.take(SIGN)


def read_list(text):
    """The list that a text tells; a Fault is raised if it tells none."""
    if len(text) > LONGEST_TEXT:
        raise Fault(TEXT_TOO_LONG, LONGEST_TEXT)
    # All tokens are read ahead: a place without a token goes before any other fault.
    reader = TokenReader(read_tokens(text))
    held = PatternList()
    read_margins(reader, held)
    while reader.stands("word"):
        read_word(reader, held)
    while reader.stands("pattern"):
        read_pattern(reader, held)
    reader.take(END)
    return held
