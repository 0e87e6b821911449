"""Promise 1: the table tells just the patterns, no two nodes tell the same, in whatever order they stand."""

import itertools
import random
import unittest

from tests.helper import STORE, TABLE, ask, greatest_patterns, load, plain_signs, plain_sizes, plain_table
from tests.helper import some_patterns, stored_nodes, text_of, told_ends


def stored(patterns):
    """The numbers that tell the table of some patterns."""
    answer = ask(load(text_of(patterns)), [STORE])[1]
    if answer[0] != len(answer) - 1:
        raise AssertionError(f"the count is off: {answer}")
    return answer[1:]


def sizes(patterns):
    return ask(load(text_of(patterns)), [TABLE])[1]


class TableCase(unittest.TestCase):
    def holds(self, patterns):
        numbers = stored(patterns)
        nodes, first = stored_nodes(numbers)
        self.assertEqual(told_ends(nodes, first), sorted(plain_signs(pattern) for pattern in patterns))
        for number, (digits, ways) in enumerate(nodes):
            signs = [sign for sign, onward in ways]
            self.assertEqual(signs, sorted(set(signs)))
            self.assertTrue(all(0 <= onward < number for sign, onward in ways))
        all_told = [tuple(told_ends(nodes, number)) for number in range(len(nodes))]
        self.assertEqual(len(set(all_told)), len(nodes))
        self.assertEqual(numbers, plain_table(patterns))
        ways = sum(len(ways) for digits, ways in nodes)
        ends = sum(digits is not None for digits, ways in nodes)
        self.assertEqual(sizes(patterns), plain_sizes(patterns))
        self.assertEqual(sizes(patterns)[:-1], [len(patterns), len(nodes), ways, ends])


class Tables(TableCase):
    def test_no_patterns(self):
        self.assertEqual(sizes([]), [0, 1, 0, 0, 1])
        self.assertEqual(stored([]), [1, 0, 0, 0])
        self.assertEqual(ask(load("margins 0 0 ; word ab ;"), [TABLE], [STORE]),
                         [[1, 1, 0], [0, 1, 0, 0, 1], [4, 1, 0, 0, 0]])

    def test_one_pattern(self):
        self.assertEqual(stored(["3a4"]), [2, 1, 2, 3, 4, 0, 0, 1, 97, 0, 1])
        self.assertEqual(stored([".a4."]), [4, 1, 2, 0, 4, 0, 0, 1, 0, 0, 0, 1, 97, 1, 0, 1, 0, 2, 3])

    def test_ends_are_shared(self):
        self.assertEqual(sizes(["a1b", "c1b"]), [2, 3, 3, 1, 5])
        self.assertEqual(sizes(["a1b", "c2b"]), [2, 5, 4, 2, 5])
        self.assertEqual(sizes(["1abcd", "1bbcd", "1cbcd"]), [3, 5, 6, 1, 13])
        self.assertEqual(sizes(["a1.", "b1."]), [2, 3, 3, 1, 5])
        self.assertEqual(sizes([".a1", "a1"]), [2, 3, 3, 1, 4])

    def test_digits_of_other_lengths_are_not_shared(self):
        self.assertEqual(sizes(["1a", "1ba"]), [2, 4, 3, 2, 4])

    def test_a_node_with_an_end_and_ways_on(self):
        self.assertEqual(stored(["a1", "ab2"]), [3, 1, 3, 0, 0, 2, 0, 1, 2, 0, 1, 1, 98, 0, 0, 1, 97, 1, 2])
        self.assertEqual(sizes(["a1", "ab2", "a3."]), [3, 4, 3, 3, 4])

    def test_some_patterns_by_hand(self):
        for patterns in [[], ["a1"], ["a1", "ab2", "b3"], [".a1", "a1", "a1.", ".a1."],
                         ["1abcdef", ".1abcdef", "1abcdef.", ".1abcdef."], ["a1b", "d1b"]]:
            self.holds(patterns)

    def test_the_order_does_not_matter(self):
        patterns = ["1ba", "1ca", ".a2b", "c1", "ca1."]
        told = {tuple(stored(order)) for order in itertools.permutations(patterns)}
        self.assertEqual(len(told), 1)
        self.assertEqual(len({tuple(sizes(order)) for order in itertools.permutations(patterns)}), 1)

    def test_words_and_margins_do_not_matter(self):
        patterns = ["1ba", "a1"]
        told = ask(load(text_of(patterns, ["ab", "c-d"], 3, 4)), [STORE])[1]
        self.assertEqual(told[1:], stored(patterns))

    def test_many_tables(self):
        chance = random.Random(1)
        for turn in range(250):
            patterns = some_patterns(chance, chance.choice(["ab", "abc", "abcdefgh", "xyz"]), 40)
            self.holds(patterns)
            mixed = chance.sample(patterns, len(patterns))
            self.assertEqual(stored(mixed), stored(patterns))

    def test_the_greatest_tables(self):
        self.holds(greatest_patterns())
        self.assertEqual(sizes(greatest_patterns()), [40, 282, 281, 40, 282])


if __name__ == "__main__":
    unittest.main()
