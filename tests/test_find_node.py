"""Find and node: where a pattern's signs lead, and what is told from a node on."""

import random
import unittest

from tests.helper import GREATEST, LEAST, NO_CHUNKS, NO_PATTERNS, STORE, WORKED_PATTERNS, add, ask, drop, find, load
from tests.helper import node, plain_find, plain_node, plain_table, plain_with, some_patterns, stored_nodes, text_of
from tests.helper import told_as_numbers, told_ends


class FindCase(unittest.TestCase):
    def found(self, patterns, pattern):
        answer = ask(load(text_of(patterns)), find(pattern))[1]
        self.assertEqual(answer, plain_find(patterns, pattern), (patterns, pattern))
        return answer


class Find(FindCase):
    def test_worked_answers(self):
        self.assertEqual(self.found(WORKED_PATTERNS, "c1a"), [1, 6, 5, 3])
        self.assertEqual(self.found(WORKED_PATTERNS, "b1"), [0, 6, 4])

    def test_all_the_way(self):
        for pattern in WORKED_PATTERNS:
            self.assertEqual(self.found(WORKED_PATTERNS, pattern)[0], 1)
        self.assertEqual(self.found([".1a2b3c4d5e6f7."], ".abcdef1."), [1, 8, 7, 6, 5, 4, 3, 2, 1, 0])

    def test_all_the_way_but_to_no_end(self):
        self.assertEqual(self.found(["abc1"], "ab1"), [0, 3, 2, 1])
        self.assertEqual(self.found(["abc1."], "abc1"), [0, 4, 3, 2, 1])

    def test_part_of_the_way(self):
        self.assertEqual(self.found(["abc1"], "abd1"), [0, 3, 2, 1])
        self.assertEqual(self.found(["abc1"], "abcd1"), [0, 3, 2, 1, 0])
        self.assertEqual(self.found(["abc1"], "abc1."), [0, 3, 2, 1, 0])
        self.assertEqual(self.found([".abc1"], ".bc1"), [0, 4, 3])
        self.assertEqual(self.found(["a1", "b1a"], "bb1a"), [0, 3, 2])

    def test_nowhere(self):
        self.assertEqual(self.found(["abc1"], "z1"), [0, 3])
        self.assertEqual(self.found(["abc1"], ".abc1"), [0, 3])
        self.assertEqual(self.found([".abc1"], "abc1"), [0, 4])
        self.assertEqual(self.found([], "a1"), [0, 0])
        self.assertEqual(self.found([], ".a1."), [0, 0])

    def test_signs_behind_one_that_leads_no_further_do_not_count(self):
        self.assertEqual(self.found(["ab1"], "cab1"), [0, 2])
        self.assertEqual(self.found(["ab1"], "acb1"), [0, 2, 1])

    def test_digits_do_not_matter(self):
        for pattern in ["a1b", "1ab", "ab1", "9a9b9", "a2b"]:
            self.assertEqual(self.found(["a1b"], pattern), [1, 2, 1, 0])

    def test_points_matter(self):
        patterns = ["a1", ".a1", "a1.", ".a1."]
        for k in range(4):
            others = patterns[:k] + patterns[k + 1:]
            self.assertEqual(self.found(patterns, patterns[k])[0], 1)
            self.assertEqual(self.found(others, patterns[k])[0], 0)

    def test_no_patterns_chunk(self):
        for pattern in NO_PATTERNS + NO_CHUNKS:
            told = ask(load(text_of(["a1"])), find(pattern), find("a1"))
            self.assertEqual(told[1:], [[-4], [1, 1, 0]], pattern)

    def test_many_patterns(self):
        chance = random.Random(31)
        for turn in range(150):
            patterns = some_patterns(chance, "abc", 30)
            for pattern in some_patterns(chance, "abc", 6) + patterns[:3]:
                self.found(patterns, pattern)

    def test_behind_add_and_drop(self):
        told = ask(load(text_of(WORKED_PATTERNS)), add("b1"), find("b1"), drop(4), find("b1"), drop(0), find("b1"))
        self.assertEqual([told[2], told[4], told[6]],
                         [plain_find(WORKED_PATTERNS + ["b1"], "b1"), [0, 6, 4], [0, 5]])

    def test_another_one_is_looked_for_also_while_there_are_forty(self):
        patterns = [f"{a}{b}1" for a in "abcde" for b in "ijklmnop"]
        self.assertEqual(self.found(patterns, "zz1"), [0, 2])
        self.assertEqual(self.found(patterns, "az1"), [0, 2, 1])


class Nodes(FindCase):
    def test_worked_answer(self):
        self.assertEqual(ask(load(text_of(WORKED_PATTERNS)), node(5))[1], [2, 1, 2, 0, 1, 1, 97, 3])

    def test_each_node(self):
        answers = ask(load(text_of(WORKED_PATTERNS)), *[node(number) for number in range(7)])[1:]
        self.assertEqual(answers, [[1, 1, 3, 0, 2, 0, 0],
                                   [1, 0, 1, 98, 0],
                                   [1, 0, 1, 97, 1],
                                   [1, 1, 3, 1, 0, 0, 0],
                                   [1, 0, 1, 97, 3],
                                   [2, 1, 2, 0, 1, 1, 97, 3],
                                   [4, 0, 3, 0, 2, 98, 4, 99, 5]])

    def test_shared_ends_count_once_for_each_way(self):
        patterns = [a + b + "1" for a in "abc" for b in "abcd"]
        told = ask(load(text_of(patterns)), node(0), node(1), node(2))[1:]
        self.assertEqual([answer[0] for answer in told], [1, 4, 12])

    def test_no_patterns(self):
        told = ask(load(text_of([])), node(0), node(1), node(-1))[1:]
        self.assertEqual(told, [[0, 0, 0], [-2], [-2]])

    def test_no_such_node(self):
        for number in [-1, -2, -7, -8, 7, 8, 300, LEAST, GREATEST]:
            told = ask(load(text_of(WORKED_PATTERNS)), node(number), node(6))
            self.assertEqual(told[1:], [[-2], [4, 0, 3, 0, 2, 98, 4, 99, 5]])

    def test_all_nodes_of_many_tables(self):
        chance = random.Random(32)
        for turn in range(60):
            patterns = some_patterns(chance, "abc", 25)
            nodes, first = stored_nodes(ask(load(text_of(patterns)), [STORE])[1][1:])
            asked = range(min(len(nodes) + 1, 59))
            told = ask(load(text_of(patterns)), *[node(number) for number in asked])[1:]
            self.assertEqual(told, [plain_node(patterns, number) for number in asked])
            for number, answer in zip(range(len(nodes)), told):
                self.assertEqual(answer, [len(told_ends(nodes, number)), *told_as_numbers(*nodes[number])])

    def test_nodes_of_the_first_one_tell_all_patterns(self):
        chance = random.Random(33)
        for turn in range(60):
            patterns = some_patterns(chance, "abcd", 40)
            first = plain_table(patterns)[-1]
            self.assertEqual(ask(load(text_of(patterns)), node(first), node(first + 1))[1:],
                             [plain_node(patterns, first), [-2]])
            self.assertEqual(plain_node(patterns, first)[0], len(patterns))

    def test_behind_add_and_drop(self):
        more = plain_with(WORKED_PATTERNS, ".b1")
        told = ask(load(text_of(WORKED_PATTERNS)), add(".b1"), *[node(number) for number in range(-1, 9)], drop(4),
                   *[node(number) for number in range(-1, 9)])
        self.assertEqual(told[2:12], [plain_node(more, number) for number in range(-1, 9)])
        self.assertEqual(told[13:], [plain_node(WORKED_PATTERNS, number) for number in range(-1, 9)])


if __name__ == "__main__":
    unittest.main()
