"""Texts, read as tokens."""

from patterntables.faults import NO_TOKEN, Fault

BLANKS = (32, 9, 10)
LINE_END = 10
REMARK = 35
SEMICOLON = 59
HYPHEN = 45
POINT = 46

CHUNK = "chunk"
SIGN = "sign"
END = "end"

LONGEST_CHUNK = 40


class Token:
    """A chunk, a sign or the text's end, with its place and its bytes."""

    def __init__(self, kind, place, chunk):
        self.kind = kind
        self.place = place
        self.chunk = chunk


def spelled(word):
    """The bytes of a word of this program."""
    return [ord(letter) for letter in word]


def is_letter(byte):
    return 97 <= byte <= 122


def is_digit(byte):
    return 48 <= byte <= 57


def is_chunk_byte(byte):
    return is_letter(byte) or is_digit(byte) or byte == HYPHEN or byte == POINT


def remark_end(text, begin):
    """The place of the line's end behind a remark, or the text's end."""
    place = begin
    while place < len(text) and text[place] != LINE_END:
        place += 1
    return place


def past_blanks(text, begin):
    """The first place from begin on that's in no blank and no remark."""
    place = begin
    while place < len(text):
        if text[place] == REMARK:
            place = remark_end(text, place)
        elif text[place] in BLANKS:
            place += 1
        else:
            return place
    return place


def chunk_end(text, begin):
    """The place behind the chunk bytes that stand from begin on."""
    place = begin
    while place < len(text) and is_chunk_byte(text[place]):
        place += 1
    return place


def token_at(text, place):
    """The token that begins at this place, which is not the text's end."""
    if text[place] == SEMICOLON:
        return Token(SIGN, place, [SEMICOLON])
    chunk = text[place:chunk_end(text, place)]
    if len(chunk) == 0 or len(chunk) > LONGEST_CHUNK:
        raise Fault(NO_TOKEN, place)
    return Token(CHUNK, place, chunk)


def read_tokens(text):
    """All tokens of a text, its end as the last of them."""
    tokens = []
    place = past_blanks(text, 0)
    while place < len(text):
        token = token_at(text, place)
        tokens.append(token)
        place = past_blanks(text, place + len(token.chunk))
    tokens.append(Token(END, place, []))
    return tokens
