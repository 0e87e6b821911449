"""Promise 2: levels looked up are the plain ones, and letters are parted alike."""

import random
import unittest

from tests.helper import ask, levels, load, part, plain_levels, plain_parted, plain_steps, some_patterns
from tests.helper import some_word, text_of


class LevelCase(unittest.TestCase):
    def levels(self, patterns, word):
        """The levels between the letters, as answered; all of the answer is held against the plain one."""
        answer = ask(load(text_of(patterns)), levels(word))[1]
        plain = plain_levels(patterns, word)[1:-1]
        self.assertEqual(answer, [len(plain)] + plain + [plain_steps(patterns, word)], (patterns, word))
        return answer[1:-1]

    def steps(self, patterns, word):
        return ask(load(text_of(patterns)), levels(word))[1][-1]

    def parted(self, patterns, word, left=0, right=0):
        answer = ask(load(text_of(patterns, (), left, right)), part(word))[1]
        self.assertEqual(answer[0], len(answer) - 1)
        self.assertEqual(answer[1:], plain_parted(patterns, word, left, right))
        return answer[1:]


class Levels(LevelCase):
    def test_no_patterns(self):
        self.assertEqual(self.levels([], "abc"), [0, 0])
        self.assertEqual(self.steps([], "abc"), 5)

    def test_the_greatest_digit_counts(self):
        self.assertEqual(self.levels(["a1b", "b3", "2bc"], "abbc"), [1, 3, 3])
        self.assertEqual(self.levels(["a4b", "a2b1a"], "aba"), [4, 1])
        self.assertEqual(self.levels(["a2b", "a4ba"], "aba"), [4, 0])

    def test_patterns_that_begin_alike(self):
        self.assertEqual(self.levels(["a1", "ab2", "abc3", "abcd4"], "abcde"), [1, 2, 3, 4])

    def test_a_pattern_fits_wherever_its_letters_stand(self):
        self.assertEqual(self.levels(["a1a"], "aaaa"), [1, 1, 1])
        self.assertEqual(self.levels(["aa5aa"], "aaaaaa"), [0, 5, 5, 5, 0])

    def test_a_point_in_front(self):
        self.assertEqual(self.levels([".a1"], "aaa"), [1, 0])
        self.assertEqual(self.levels([".b1"], "aba"), [0, 0])
        self.assertEqual(self.levels([".1a2b3"], "abab"), [2, 3, 0])

    def test_a_point_at_the_end(self):
        self.assertEqual(self.levels(["1a."], "aaa"), [0, 1])
        self.assertEqual(self.levels(["1b."], "aba"), [0, 0])
        self.assertEqual(self.levels(["3a2b1."], "abab"), [0, 3, 2])

    def test_both_points(self):
        self.assertEqual(self.levels([".a1b."], "ab"), [1])
        self.assertEqual(self.levels([".a1b."], "abb"), [0, 0])
        self.assertEqual(self.levels([".a1b."], "aab"), [0, 0])
        self.assertEqual(self.levels([".a1a."], "aaa"), [0, 0])

    def test_digits_in_front_and_behind(self):
        self.assertEqual(self.levels(["9a"], "aba"), [0, 9])
        self.assertEqual(self.levels(["a9"], "aba"), [9, 0])
        self.assertEqual(self.levels(["7ab8"], "cabd"), [7, 0, 8])

    def test_letters_of_2_and_16(self):
        self.assertEqual(self.levels(["a1b"], "ab"), [1])
        self.assertEqual(self.levels(["o9p"], "abcdefghijklmnop"), [0] * 14 + [9])

    def test_steps(self):
        # Each of 4 signs is looked at from itself on; only what leads on is followed further.
        self.assertEqual(self.steps(["z1"], "ab"), 4)
        self.assertEqual(self.steps(["a1"], "ab"), 5)
        self.assertEqual(self.steps(["ab1"], "ab"), 6)
        self.assertEqual(self.steps(["abc1"], "ab"), 6)
        self.assertEqual(self.steps([".z1"], "ab"), 5)
        self.assertEqual(self.steps([".a1"], "ab"), 6)
        self.assertEqual(self.steps(["1b."], "ab"), 5)
        self.assertEqual(self.steps(["a1b."], "ab"), 6)
        self.assertEqual(self.steps([".a1b."], "ab"), 7)
        self.assertEqual(self.steps([".a1b"], "ab"), 7)
        self.assertEqual(self.steps(["a1"], "aaa"), 8)

    def test_words_as_told_in_the_text_do_not_matter(self):
        told = ask(load(text_of(["a1b"], ["a-b-c", "abab"], 5, 5)), levels("abab"))[1]
        self.assertEqual(told, ask(load(text_of(["a1b"])), levels("abab"))[1])

    def test_many_levels(self):
        chance = random.Random(5)
        for turn in range(300):
            alphabet = chance.choice(["ab", "abc", "abcdef"])
            patterns = some_patterns(chance, alphabet, 40)
            for word in [some_word(chance, alphabet) for _ in range(4)]:
                self.levels(patterns, word)


class Parted(LevelCase):
    def test_odd_levels_alone(self):
        self.assertEqual(self.parted(["a1b2c3d4e5f6"], "abcdef"), [1, 3, 5])
        self.assertEqual(self.parted(["a9b", "b8c"], "abc"), [1])
        self.assertEqual(self.parted(["a1b", "a2b."], "abab"), [1])

    def test_not_in_front_and_not_behind(self):
        self.assertEqual(self.parted(["1a1"], "aa"), [1])
        self.assertEqual(self.parted([".1a", "b1."], "ab"), [])

    def test_margins(self):
        for left in range(6):
            for right in range(6):
                expected = [gap for gap in range(1, 8) if gap >= left and 8 - gap >= right]
                self.assertEqual(self.parted(["1a"], "aaaaaaaa", left, right), expected)

    def test_margins_of_short_words(self):
        self.assertEqual(self.parted(["1a"], "aa", 1, 1), [1])
        self.assertEqual(self.parted(["1a"], "aa", 2, 0), [])
        self.assertEqual(self.parted(["1a"], "aa", 0, 2), [])
        self.assertEqual(self.parted(["1a"], "aaaaa", 5, 5), [])
        self.assertEqual(self.parted(["1a"], "aaaaaaaaaa", 5, 5), [5])
        self.assertEqual(self.parted(["1a"], "aaaaaaaaa", 5, 5), [])

    def test_no_patterns(self):
        self.assertEqual(self.parted([], "abcdef"), [])

    def test_many_parted(self):
        chance = random.Random(6)
        for turn in range(300):
            alphabet = chance.choice(["ab", "abc", "abcdef"])
            patterns = some_patterns(chance, alphabet, 40)
            word = some_word(chance, alphabet)
            self.parted(patterns, word, chance.randint(0, 5), chance.randint(0, 5))


class Refused(unittest.TestCase):
    def test_letters_that_are_none(self):
        for letters in ["", "a", "a" * 17, "aB", "Ab", "a-b", "a1", ".a", "ab ", " ab", "a`", "a{", "ab\n",
                        [97, 0], [0, 97], [97, 255], "a" * 8192]:
            for call in levels, part:
                told = ask(load(text_of(["a1"])), call(letters), levels("aa"), part("aa"))
                self.assertEqual(told[1:], [[-4], [1, 1, 6], [1, 1]])

    def test_letters_at_the_edges(self):
        for letters in ["az", "za", "a" * 16, "z" * 16]:
            told = ask(load(text_of([])), levels(letters), part(letters))
            self.assertEqual(told[1:], [[len(letters) - 1] + [0] * (len(letters) - 1) + [len(letters) + 2], [0]])


if __name__ == "__main__":
    unittest.main()
