"""Lists: what is one, and each fault with its code and its place."""

import random
import re
import string
import unittest

from tests.helper import NO_PATTERNS, TABLE, ask, load, part, plain_signs, text_of

MANY_WORDS = [a + b for a in "abcde" for b in "fghij"]
MANY_PATTERNS = [f"1{a}{b}" for a in "abcdefg" for b in "hijklm"]


def loaded(text):
    return ask(load(text))[0]


def as_bytes(text):
    return text.encode("latin-1") if isinstance(text, str) else bytes(text)


class ListCase(unittest.TestCase):
    def fault(self, text, code, at):
        """The text has this fault, at a place or where a piece of text stands."""
        place = at if isinstance(at, int) else as_bytes(text).index(as_bytes(at))
        self.assertEqual(loaded(text), [0, code, place], text)

    def right(self, text, words, patterns):
        self.assertEqual(loaded(text), [1, words, patterns], text)


class Texts(ListCase):
    def test_4096_bytes_are_read(self):
        text = "margins 0 0 ;"
        self.right(text + " " * (4096 - len(text)), 0, 0)
        self.right(text + "#" * (4096 - len(text)), 0, 0)
        self.fault("#" * 4096, 3, 4096)

    def test_4097_bytes_are_fault_1(self):
        text = "margins 0 0 ;"
        self.fault(text + " " * (4097 - len(text)), 1, 4096)
        self.fault(text + " " * (8192 - len(text)), 1, 4096)
        self.fault("#" * 4097, 1, 4096)

    def test_fault_1_goes_first(self):
        self.fault("!" * 4097, 1, 4096)
        self.fault("word" + " " * 4093, 1, 4096)

    def test_blanks_and_remarks_between_any_tokens(self):
        tokens = "margins 1 2 ; word a-b ; word cd ; pattern 1a ; pattern .b2. ;".split()
        for gap in [" ", "\t", "\n", "\n\n \t", "#\n", " # margins ; ! \xff\n", "#a\n#b\n "]:
            self.right(gap.join(tokens), 2, 2)
            self.right(gap + gap.join(tokens) + gap, 2, 2)
            for k in range(1, len(tokens)):
                self.right(" ".join(tokens[:k]) + gap + " ".join(tokens[k:]), 2, 2)

    def test_a_remark_parts_and_ends_at_the_line_or_the_text(self):
        self.right("margins#0 0\n0#\n0;", 0, 0)
        self.right("margins 0 0 ;#", 0, 0)
        self.right("margins 0 0 ;# word ! ;", 0, 0)
        self.fault("margins 0 # 0 ;", 3, 15)
        self.fault("margins 0 #\r 0 ;", 3, 16)
        self.fault("margins 0 0 ; # ;\n ;", 3, 19)

    def test_the_sign_needs_no_blanks(self):
        self.right("margins 0 0;word a-b;pattern a1;", 1, 1)

    def test_where_no_token_begins(self):
        self.fault("margins 0 0 ; !", 2, "!")
        self.fault("margins 0 0 ;\r", 2, "\r")
        self.fault("Margins 0 0 ;", 2, 0)
        self.fault("margins 0 0 ; word aB ;", 2, "B")
        self.fault("margins 0 0 ; pattern 1\xe9 ;", 2, "\xe9")
        self.fault("margins 0 0 , word ab ;", 2, ",")

    def test_every_byte(self):
        blanks = b" \t\n#"
        chunk = (string.ascii_lowercase + string.digits + "-.").encode()
        for byte in range(256):
            text = b"margins 0 0 ; " + bytes([byte])
            if byte in blanks:
                self.right(text, 0, 0)
            elif byte in chunk or byte == 59:
                self.fault(text, 3, 14)
            else:
                self.fault(text, 2, 14)

    def test_chunks_of_40_and_41_bytes(self):
        for letter in "a", "1", "-", ".", "a1-.":
            chunk = (letter * 41)[:41]
            self.fault(f"margins 0 0 ; word {chunk[:40]} ;", 7, 19)
            self.fault(f"margins 0 0 ; word {chunk} ;", 2, 19)
            self.fault(f"margins 0 0 ; {chunk[:40]} ;", 3, 14)
            self.fault(f"margins 0 0 ; {chunk} ;", 2, 14)
        self.fault("b" * 500, 2, 0)

    def test_fault_2_goes_before_those_further_left(self):
        self.fault("word ! ", 2, "!")
        self.fault("margins 7 0 ; word a ; word a ; pattern 1 ; @", 2, "@")
        self.fault("; ; " + "a" * 41, 2, 4)
        self.fault("a" * 41 + "!", 2, 0)
        self.fault("! " + "a" * 41, 2, 0)
        self.fault("a! " + "a" * 41, 2, 1)


class Order(ListCase):
    def test_the_end_where_a_token_has_to_stand(self):
        whole = "margins 0 0 ; word ab ; pattern a1 ;".split()
        for count in range(len(whole)):
            text = " ".join(whole[:count])
            if count in (4, 7):
                self.assertEqual(loaded(text)[0], 1, text)
                continue
            for end in "", " ", "\n", "  # more":
                self.fault(text + end, 3, len(text + end))

    def test_a_token_that_is_not_allowed(self):
        self.fault("; margins 0 0 ;", 3, 0)
        self.fault("word ab ;", 3, 0)
        self.fault("margin 0 0 ;", 3, 0)
        self.fault("marginss 0 0 ;", 3, 0)
        self.fault("margins ; 0 ;", 3, 8)
        self.fault("margins 0 ;", 3, ";")
        self.fault("margins 0 0 0 ;", 3, 12)
        self.fault("margins 0 0 word ab ;", 3, "word")
        self.fault("margins 0 0 ; ;", 3, 14)
        self.fault("margins 0 0 ; ab ;", 3, "ab")
        self.fault("margins 0 0 ; margins 0 0 ;", 3, 14)
        self.fault("margins 0 0 ; words ab ;", 3, "words")
        self.fault("margins 0 0 ; word ;", 3, 19)
        self.fault("margins 0 0 ; word ab cd ;", 3, "cd")
        self.fault("margins 0 0 ; word ab pattern a1 ;", 3, "pattern")
        self.fault("margins 0 0 ; pattern ;", 3, 22)
        self.fault("margins 0 0 ; pattern a1 b1 ;", 3, "b1")
        self.fault("margins 0 0 ; pattern a1 ; ; ", 3, 27)
        self.fault("margins 0 0 ; pattern a1 ; a1 ;", 3, 27)

    def test_a_word_behind_a_pattern(self):
        self.fault("margins 0 0 ; pattern a1 ; word ab ;", 3, "word")
        self.fault("margins 0 0 ; word ab ; pattern a1 ; word cd ;", 3, 37)
        text = text_of(["a1"], MANY_WORDS[:24])
        self.fault(text + "word zz ;", 3, len(text))
        text = text_of(MANY_PATTERNS[:40])
        self.fault(text + "word zz ;", 3, len(text))

    def test_keywords_as_chunks(self):
        self.right("margins 0 0 ; word margins ; word word ; word pattern ; word pat-tern-s ;", 4, 0)
        for keyword in "margins", "word", "pattern":
            self.fault(f"margins {keyword} 0 ;", 7, 8)
            self.fault(f"margins 0 {keyword} ;", 7, 10)
            self.fault(f"margins 0 0 ; pattern {keyword} ;", 7, 22)

    def test_24_and_25_words(self):
        self.right(text_of([], MANY_WORDS[:24]), 24, 0)
        for more in "word zz ;", "word", "word ;", "word a1 ;", f"word {MANY_WORDS[0]} ;":
            text = text_of([], MANY_WORDS[:24])
            self.fault(text + more, 4, len(text))
        self.right(text_of(MANY_PATTERNS[:40], MANY_WORDS[:24]), 24, 40)

    def test_40_and_41_patterns(self):
        self.right(text_of(MANY_PATTERNS[:40]), 0, 40)
        for more in "pattern 1zz ;", "pattern", "pattern ;", "pattern zz ;", f"pattern {MANY_PATTERNS[0]} ;":
            text = text_of(MANY_PATTERNS[:40])
            self.fault(text + more, 4, len(text))

    def test_the_leftmost_goes_first(self):
        self.fault("margins 6 ; word a ;", 7, "6")
        self.fault("margins ; 6", 3, ";")
        self.fault("margins 0 9 0", 7, "9")
        self.fault("margins 0 0 ; word a-b ; word ab word", 5, 30)
        self.fault("margins 0 0 ; word a- word", 7, "a-")
        self.fault("margins 0 0 ; pattern a1 ; pattern 9a pattern", 5, "9a")
        self.fault("margins 0 0 ; pattern a0 ; pattern a1 ; pattern a1", 7, "a0")
        text = text_of([], MANY_WORDS[:24] + ["a", "zz"])
        self.fault(text, 4, text.index("word a ;"))
        text = text_of([], ["a"] + MANY_WORDS[:25])
        self.fault(text, 7, text.index("a ;"))


class Values(ListCase):
    def test_margins(self):
        for margin in "012345":
            self.right(f"margins {margin} 0 ;", 0, 0)
            self.right(f"margins 0 {margin} ;", 0, 0)
        for margin in "6", "9", "00", "05", "10", "a", "-", "-1", ".", "1.", "1-":
            self.fault(f"margins {margin} 0 ;", 7, 8)
            self.fault(f"margins 0 {margin} ;", 7, 10)

    def test_words_as_told(self):
        letters = "abcdefghijklmnop"
        for word in "ab", "a-b", "zz", "z-z", letters, "-".join(letters), "ab-c", "a-bc":
            self.right(f"margins 0 0 ; word {word} ;", 1, 0)

    def test_words_not_as_told(self):
        letters = "abcdefghijklmnopq"
        for word in ["a", "z", "-", "--", "-a", "a-", "-ab", "ab-", "a--b", "a-b--c", letters, "-".join(letters),
                     "a1b", "1ab", "ab1", "a.b", ".ab", "ab.", "a-1", "0", "a-.b"]:
            self.fault(f"margins 0 0 ; word {word} ;", 7, 19)

    def test_patterns_as_told(self):
        for pattern in ["a1", "1a", "9z9", ".a1", "1a.", ".1a.", ".a1.", "a1b", "abcdef1", "1abcdef", "abc5def",
                        ".1a2b3c4d5e6f7.", "a9b"]:
            self.right(f"margins 0 0 ; pattern {pattern} ;", 0, 1)

    def test_patterns_not_as_told(self):
        for pattern in NO_PATTERNS:
            self.fault(f"margins 0 0 ; pattern {pattern} ;", 7, 22)

    def test_words_with_the_same_letters(self):
        self.fault("margins 0 0 ; word ab ; word ab ;", 5, 29)
        self.fault("margins 0 0 ; word ab ; word a-b ;", 5, "a-b")
        self.fault("margins 0 0 ; word a-bc ; word de ; word ab-c ;", 5, "ab-c")
        self.right("margins 0 0 ; word ab ; word ba ; word abc ;", 3, 0)

    def test_patterns_with_the_same_letters_and_points(self):
        self.fault("margins 0 0 ; pattern a1 ; pattern a1 ;", 5, 35)
        self.fault("margins 0 0 ; pattern a1b ; pattern ab2 ;", 5, "ab2")
        self.fault("margins 0 0 ; pattern .a1 ; pattern b1 ; pattern .2a ;", 5, ".2a")
        self.fault("margins 0 0 ; pattern a1. ; pattern 2a. ;", 5, "2a.")
        self.fault("margins 0 0 ; pattern .a1. ; pattern .2a. ;", 5, ".2a.")
        self.right("margins 0 0 ; pattern a1 ; pattern .a1 ; pattern a1. ; pattern .a1. ;", 0, 4)
        self.right("margins 0 0 ; word ab ; pattern a1b ; pattern ab1a ; pattern b1a ;", 1, 3)


class Held(ListCase):
    def test_a_load_that_fails_changes_nothing(self):
        text = text_of(["a1b", "1ba"], ["ab"], 2, 2)
        asked = [[TABLE], part("abab"), part("bababa")]
        before = ask(load(text), *asked)
        for wrong in ["", "!", "margins 0 0 ; pattern b1a ; word", "margins 1 1 ; pattern a1 ; pattern a1 ;",
                      " " * 4097, "margins 0 6 ;"]:
            told = ask(load(text), load(wrong), *asked)
            self.assertEqual(told[1][0], 0)
            self.assertEqual(told[:1] + told[2:], before)
            self.assertEqual(ask(load(wrong), [TABLE])[1], [-1])

    def test_a_load_that_does_not_puts_the_list_before_away(self):
        first = text_of(["a1b", "1ba"], ["ab", "ba"], 0, 0)
        second = text_of(["a2b", "c1"], [], 1, 2)
        asked = [[TABLE], part("abcab"), part("ababab")]
        told = ask(load(first), *asked, load(second), *asked, load(first), *asked)
        self.assertEqual(told[:4], ask(load(first), *asked))
        self.assertEqual(told[4:8], ask(load(second), *asked))
        self.assertEqual(told[8:], ask(load(first), *asked))
        self.assertNotEqual(told[1:4], told[5:8])


def plain_fault(text):
    """What a load of the text answers, told apart by regular expressions."""
    if len(text) > 4096:
        return [0, 1, 4096]
    tokens = []
    place = 0
    while place < len(text):
        found = re.compile(r"[ \t\n]+|#[^\n]*|;|[a-z0-9.-]+").match(text, place)
        if not found or re.match("[a-z0-9.-]{41}", found.group()):
            return [0, 2, place]
        if found.group()[0] not in " \t\n#":
            tokens.append((found.group(), place))
        place = found.end()
    return plain_order(tokens + [("", len(text))])


def plain_order(tokens):
    """The same, of tokens and their places."""
    wanted = ["margins", "L", "L", ";"]
    words, patterns = [], []
    for token, place in tokens:
        if not wanted:
            if token == "":
                return [1, len(words), len(patterns)]
            if token not in ("word", "pattern") or token == "word" and patterns:
                return [0, 3, place]
            if len(words if token == "word" else patterns) == {"word": 24, "pattern": 40}[token]:
                return [0, 4, place]
            wanted = [token[0], ";"]
            continue
        want = wanted.pop(0)
        if want in ("margins", ";"):
            if token != want:
                return [0, 3, place]
            continue
        if token in ("", ";"):
            return [0, 3, place]
        code = plain_value(want, token, words, patterns)
        if code:
            return [0, code, place]
    raise AssertionError("the end was passed by")


def plain_value(want, token, words, patterns):
    """The fault of a chunk, or 0; what is right is put to the words or patterns."""
    if want == "L":
        return 0 if re.fullmatch("[0-5]", token) else 7
    if want == "w":
        letters = token.replace("-", "")
        if not re.fullmatch("[a-z](-?[a-z])+", token) or len(letters) > 16:
            return 7
        held, told = words, letters
    else:
        if not re.fullmatch(r"\.?[1-9]?([a-z][1-9]?){1,6}\.?", token) or not re.search("[1-9]", token):
            return 7
        held, told = patterns, plain_signs(token)[0]
    if told in held:
        return 5
    held.append(told)
    return 0


class AgainstPlain(ListCase):
    def test_changed_texts(self):
        chance = random.Random(2)
        pieces = ["margins", "word", "pattern", ";", "0", "5", "6", "ab", "a-b", "a1", "1ab", ".a1", "a1.", "b2b",
                  "#", "\n", " ", "!", "\xff", "a", "a" * 41, "", ""]
        codes = set()
        for turn in range(4000):
            words = chance.sample(MANY_WORDS, chance.choice([0, 1, 3, 23, 24, 25]))
            patterns = chance.sample(MANY_PATTERNS, chance.choice([0, 1, 4, 39, 40, 41]))
            tokens = re.findall(r"\S+", text_of(patterns, words, chance.randint(0, 5), chance.randint(0, 5)))
            for _ in range(chance.randint(0, 2)):
                at = chance.randrange(len(tokens))
                tokens[at:at + chance.randint(0, 1)] = [chance.choice(chance.choice([pieces, tokens]))]
            text = chance.choice([" ", "\n", "\t#;\n"]).join(tokens)
            if chance.random() < 0.2:
                text = text[:chance.randrange(len(text))]
            told = loaded(text)
            self.assertEqual(told, plain_fault(text), text)
            codes.add(told[1] if told[0] == 0 else 0)
        self.assertEqual(codes, {0, 2, 3, 4, 5, 7})


if __name__ == "__main__":
    unittest.main()
