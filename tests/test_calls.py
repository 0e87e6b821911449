"""Many calls in one list, refusals while there's no list, and nothing that's kept or changed."""

import random
import unittest

from patterntables.tables import answers
from tests.helper import ADD, CHECK, DROP, FIND, NODE, STORE, TABLE, WORKED, ask, levels, load, part, row
from tests.helper import plain_levels, plain_parted, plain_steps, some_patterns, some_word, text_of


class NoList(unittest.TestCase):
    def test_minus_1_while_there_is_no_list(self):
        told = ask([TABLE], [STORE], levels("ab"), part("ab"), load(WORKED), [TABLE])
        self.assertEqual(told, [[-1], [-1], [-1], [-1], [1, 0, 4], [4, 7, 7, 3, 8]])

    def test_minus_1_goes_before_minus_4(self):
        self.assertEqual(ask(levels(""), part("A"), levels("a" * 17)), [[-1], [-1], [-1]])

    def test_minus_1_still_behind_a_load_that_fails(self):
        told = ask(load("margins"), [TABLE], [STORE], levels("ab"), part("ab"))
        self.assertEqual(told, [[0, 3, 7], [-1], [-1], [-1], [-1]])

    def test_every_call_but_load(self):
        told = ask([ADD] + row("a1"), [DROP, 0], [CHECK] + row([1, 0, 0, 0]), [FIND] + row(""), [NODE, -5], [TABLE])
        self.assertEqual(told, [[-1]] * 6)


class ManyCalls(unittest.TestCase):
    def test_counts_stand_ahead(self):
        self.assertEqual(answers([1]), [1, -1])
        self.assertEqual(answers(load("margins 0 0 ;") + [1, 2] + levels("ab") + part("ab") + part("a")),
                         [3, 1, 0, 0, 5, 0, 1, 0, 0, 1, 5, 4, 1, 0, 0, 0, 3, 1, 0, 4, 1, 0, 1, -4])

    def test_what_is_asked_changes_nothing(self):
        asked = [[TABLE], [STORE], levels("cabac"), part("cabac"), levels("A"), part("")]
        told = ask(load(WORKED), *(asked * 9))
        self.assertEqual(told[1:], told[1:7] * 9)

    def test_nothing_is_kept_from_one_time_to_the_next(self):
        ask(load(WORKED), [TABLE])
        self.assertEqual(ask([TABLE]), [[-1]])
        self.assertEqual(ask(load(text_of(["a1"])), [TABLE]), [[1, 0, 1], [1, 2, 1, 1, 2]])

    def test_the_list_handed_in_stays_and_is_not_given_back(self):
        calls = load(WORKED) + [STORE] + levels("bac") + load("!") + part("cab")
        before = list(calls)
        first = answers(calls)
        self.assertEqual(calls, before)
        again = answers(calls)
        self.assertEqual(first, again)
        first.clear()
        self.assertEqual(answers(calls), again)

    def test_sixty_calls_of_all_kinds(self):
        chance = random.Random(9)
        for turn in range(25):
            calls, expected = [], []
            patterns = left = right = None
            for _ in range(60):
                kind = chance.choice(["load", "wrong", "levels", "levels", "part", "part", "table"])
                word = some_word(chance, "abc")
                if kind == "load":
                    patterns = some_patterns(chance, "abc", 12)
                    left, right = chance.randint(0, 5), chance.randint(0, 5)
                    calls.append(load(text_of(patterns, ["ab", "b-a"], left, right)))
                    expected.append([1, 2, len(patterns)])
                elif kind == "wrong":
                    calls.append(load("margins 0 0 ; pattern c1 ; pattern 1"))
                    expected.append([0, 7, 35])
                elif kind == "levels":
                    calls.append(levels(word))
                    expected.append([-1] if patterns is None else
                                    [len(word) - 1, *plain_levels(patterns, word)[1:-1], plain_steps(patterns, word)])
                elif kind == "part":
                    calls.append(part(word))
                    gaps = [] if patterns is None else plain_parted(patterns, word, left, right)
                    expected.append([-1] if patterns is None else [len(gaps), *gaps])
                else:
                    calls.append([TABLE])
                    expected.append([-1] if patterns is None else ask(load(text_of(patterns)), [TABLE])[1])
            self.assertEqual(ask(*calls), expected)


if __name__ == "__main__":
    unittest.main()
