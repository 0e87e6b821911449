"""Add and drop: patterns put in and taken out again; promises 1, 2 and 4 over the tables that they make."""

import random
import unittest

from tests.helper import GREATEST, LEAST, NO_CHUNKS, NO_PATTERNS, STORE, TABLE, WORKED, WORKED_PATTERNS
from tests.helper import add, ask, check, drop, greatest_patterns, levels, load, part, plain_changed
from tests.helper import plain_levels, plain_parted, plain_signs, plain_sizes, plain_steps, plain_table, plain_with
from tests.helper import some_patterns, some_word, stored_nodes, text_of, told_ends

FORTY = [f"{a}{b}1" for a in "abcde" for b in "ijklmnop"]


class ChangeCase(unittest.TestCase):
    def changed(self, patterns, *calls):
        """The answers to the calls behind a load of the patterns."""
        return ask(load(text_of(patterns)), *calls)[1:]

    def added(self, patterns, pattern):
        """The answer to add; all of it, and the table that's there then, are held against the plain ones."""
        after = plain_with(patterns, pattern)
        answer = self.becomes(patterns, add(pattern), after)
        self.assertEqual(answer, plain_changed(patterns, after))
        return answer

    def dropped(self, patterns, number):
        after = patterns[:number] + patterns[number + 1:]
        answer = self.becomes(patterns, drop(number), after)
        self.assertEqual(answer, plain_changed(patterns, after))
        return answer

    def becomes(self, patterns, call, after):
        """The answer to a call behind which just these patterns are told, in this order."""
        answer, stored, sizes = self.changed(patterns, call, [STORE], [TABLE])
        self.assertEqual(stored[1:], plain_table(after))
        self.assertEqual(sizes, plain_sizes(after))
        # In which order they stand is told by what is left when the first one goes, and so on.
        drops = [drop(0)] * len(after)
        told = self.changed(patterns, call, *drops[:50])
        expected = [plain_changed(after[k:], after[k + 1:]) for k in range(len(after))]
        self.assertEqual(told[1:], expected[:50])
        return answer

    def refused(self, patterns, call, refusal):
        """The call is refused, and nothing is changed by it."""
        asked = [[TABLE], [STORE], levels("abab"), part("abcab")]
        told = self.changed(patterns, *asked, call, *asked)
        self.assertEqual(told[4], refusal, call)
        self.assertEqual(told[5:], told[:4])


class Worked(ChangeCase):
    def test_worked_answers(self):
        self.assertEqual(self.changed(WORKED_PATTERNS, add("c3"), drop(2)), [[4, 7, 7, 3, 8, 5], [3, 4, 4, 2, 5, 3]])
        self.assertEqual(self.added(WORKED_PATTERNS, "c3"), [4, 7, 7, 3, 8, 5])
        self.assertEqual(self.dropped(["1ba", "1ca", ".a2b", "c3"], 2), [3, 4, 4, 2, 5, 3])


class Add(ChangeCase):
    def test_behind_the_others(self):
        self.assertEqual(self.added([], "a1"), [1, 2, 1, 1, 2, 0])
        self.assertEqual(self.added(["a1"], "b1"), [2, 2, 2, 1, 3, 1])
        self.assertEqual(self.added(["a1"], "b2"), [2, 3, 2, 2, 3, 1])
        self.assertEqual(self.added(["a1"], "ab1"), [2, 3, 2, 2, 3, 0])
        self.added(WORKED_PATTERNS, "1ab")
        self.added(WORKED_PATTERNS, ".1a2b3c4d5e6f7.")

    def test_in_the_place_of_the_one_with_the_same_letters_and_points(self):
        patterns = ["a1b", ".a1b", "a1b.", ".a1b."]
        for pattern in ["ab2", "3a4b5", ".a2b", "a2b.", ".1a2b3."]:
            self.assertEqual(self.added(patterns, pattern)[0], 4)
        self.assertEqual(self.added(["a1", "b1", "c1"], "b2"), [3, 3, 3, 2, 4, 1])

    def test_points_and_letters_make_another_one(self):
        for pattern in [".a1", "a1.", ".a1.", "b1", "aa1", "ab1", "ba1"]:
            self.assertEqual(self.added(["a1"], pattern)[0], 2)

    def test_the_same_one_again(self):
        for pattern in WORKED_PATTERNS:
            self.assertEqual(self.added(WORKED_PATTERNS, pattern), [4, 7, 7, 3, 8, 7])

    def test_no_patterns_chunk(self):
        for pattern in NO_PATTERNS + NO_CHUNKS:
            self.refused(["a1b", "b2a"], add(pattern), [-4])
        for byte in range(256):
            if not 97 <= byte <= 122:
                self.refused(["a1b"], add([byte, 49]), [-4])

    def test_lengths_at_the_edges(self):
        for pattern in ["a1", "9z", ".1a2b3c4d5e6f7.", "z1zzzzz", "zzzzzz9"]:
            self.added(["b1", "zz1"], pattern)

    def test_margins_stay(self):
        text = text_of(["a1"], ["ab", "b-a"], 2, 3)
        told = ask(load(text), add("b1"), part("abababab"), add("b2"), part("abababab"))
        self.assertEqual(told[1:], [[2, 2, 2, 1, 3, 1],
                                    [4, 2, 3, 4, 5],
                                    [2, 3, 2, 2, 3, 1],
                                    [2, 3, 5]])


class Forty(ChangeCase):
    def test_the_forty_first(self):
        for pattern in ["zz1", ".ai1", "ai1.", "a1", "1zzzzzz."]:
            self.refused(FORTY, add(pattern), [-7])

    def test_no_patterns_chunk_goes_first(self):
        for pattern in ["zz", "", "ai12", "A1"]:
            self.refused(FORTY, add(pattern), [-4])

    def test_in_anothers_place_while_there_are_forty(self):
        for pattern in ["a3i", "ep2", "1cm"]:
            self.assertEqual(self.added(FORTY, pattern)[0], 40)

    def test_the_fortieth(self):
        self.assertEqual(self.added(FORTY[:39], "zz1")[0], 40)
        self.assertEqual(self.added(FORTY[:39], FORTY[39])[0], 40)

    def test_one_taken_out_makes_room_for_one(self):
        told = self.changed(FORTY, add("zz1"), drop(7), add("zz1"), add("zy1"), drop(39), add("zy1"), [TABLE])
        self.assertEqual([answer[0] for answer in told], [-7, 39, 40, -7, 39, 40, 40])
        self.assertEqual(told[-1], plain_sizes(FORTY[:7] + FORTY[8:] + ["zy1"]))

    def test_forty_put_in_one_by_one(self):
        told = self.changed([], *[add(pattern) for pattern in FORTY], add("zz1"), [STORE])
        for k, answer in enumerate(told[:40]):
            self.assertEqual(answer, plain_changed(FORTY[:k], FORTY[:k + 1]))
        self.assertEqual(told[40], [-7])
        self.assertEqual(told[41][1:], plain_table(FORTY))

    def test_the_greatest_tables(self):
        patterns = greatest_patterns()
        self.assertEqual(self.added(patterns[:-1], patterns[-1])[:2], [40, 282])
        self.assertEqual(self.dropped(patterns, 20)[:2], [39, 275])


class Drop(ChangeCase):
    def test_each_pattern(self):
        for number in range(4):
            self.dropped(WORKED_PATTERNS, number)
        for number in range(40):
            self.assertEqual(self.dropped(FORTY, number)[0], 39)

    def test_down_to_none_and_back(self):
        told = self.changed(["a1", "b1"], drop(1), drop(0), drop(0), [STORE], add("b1"), [STORE])
        self.assertEqual(told, [[1, 2, 1, 1, 2, 1], [0, 1, 0, 0, 1, 0], [-2], [4, 1, 0, 0, 0],
                                [1, 2, 1, 1, 2, 0], [11, 2, 1, 2, 0, 1, 0, 0, 1, 98, 0, 1]])

    def test_no_such_pattern(self):
        for number in [-1, -2, -4, -5, 4, 5, 40, LEAST, GREATEST]:
            self.refused(WORKED_PATTERNS, drop(number), [-2])
        for number in [-1, 0, 1, LEAST, GREATEST]:
            self.refused([], drop(number), [-2])
        self.refused(FORTY, drop(40), [-2])

    def test_patterns_behind_move_up(self):
        told = self.changed(["a1", "b2", "c3"], drop(0), drop(0), drop(1), [STORE], drop(0))
        self.assertEqual(told[2:], [[-2], [11, 2, 1, 2, 0, 3, 0, 0, 1, 99, 0, 1], [0, 1, 0, 0, 1, 0]])

    def test_one_put_in_anothers_place_keeps_its_number(self):
        told = self.changed(["a1", "b2", "c3"], add("b4"), drop(1), [STORE])
        self.assertEqual(told[2][1:], plain_table(["a1", "c3"]))


class Kept(ChangeCase):
    def test_how_many_nodes_are_kept(self):
        self.assertEqual(self.added(["ab1", "cb1", "d1"], "eb1")[-1], 3)
        self.assertEqual(self.added(["ab1", "cb1", "d1"], "a1b")[-1], 3)
        self.assertEqual(self.added(["ab1"], "cb1")[-1], 2)
        self.assertEqual(self.added(["ab1"], "ac1")[-1], 1)
        self.assertEqual(self.added(["a1b"], "a2b")[-1], 0)
        self.assertEqual(self.dropped(["ab1", "cb1"], 0)[-1], 2)
        self.assertEqual(self.dropped(["a1b", "c2b"], 0)[-1], 2)

    def test_a_node_with_other_digits_or_another_end_is_none_of_them(self):
        self.assertEqual(self.added(["a1"], "1a")[-1], 0)
        self.assertEqual(self.added(["ab1"], "a1")[-1], 1)
        self.assertEqual(self.added(["ba1", "a1"], "ca1")[-1], 3)

    def test_nodes_under_other_numbers_are_kept(self):
        # All nodes before have other numbers behind it, and all but the first one are there.
        told = self.changed(["c1d2e"], [STORE], add("a3b"), [STORE])
        before, first = stored_nodes(told[0][1:])
        after, other = stored_nodes(told[2][1:])
        self.assertEqual(told[1][-1], 3)
        here = [told_ends(after, number) for number in range(len(after))]
        self.assertEqual([here.index(told_ends(before, number)) for number in range(3)], [2, 3, 4])

    def test_none_of_the_empty_table(self):
        self.assertEqual(self.added([], ".1a.")[-1], 0)
        self.assertEqual(self.dropped([".1a."], 0)[-1], 0)

    def test_all_when_nothing_is_changed(self):
        patterns = FORTY[:10] + [".a1b2c.", "cb1", "1b."]
        self.assertEqual(self.added(patterns, "1b.")[-1], plain_sizes(patterns)[1])


class Promises(ChangeCase):
    def some_changes(self, chance, patterns, alphabet, count):
        """Calls that change the patterns, each with the patterns behind it."""
        changes = []
        for pattern in some_patterns(chance, alphabet, count):
            patterns = plain_with(patterns, pattern) if len(patterns) < 40 else patterns
            changes.append((add(pattern), patterns))
            if chance.random() < 0.5 and patterns:
                number = chance.randrange(len(patterns))
                patterns = patterns[:number] + patterns[number + 1:]
                changes.append((drop(number), patterns))
        return changes

    def test_tables_that_add_and_drop_made(self):
        chance = random.Random(11)
        for turn in range(60):
            alphabet = chance.choice(["ab", "abc", "abcdefgh"])
            patterns = some_patterns(chance, alphabet, 12)
            before = patterns
            left, right = chance.randint(0, 5), chance.randint(0, 5)
            for change, after in self.some_changes(chance, patterns, alphabet, 12):
                word = some_word(chance, alphabet)
                told = ask(load(text_of(before, (), left, right)), change, [TABLE], [STORE], levels(word), part(word))
                self.assertEqual(told[1], plain_changed(before, after))
                self.tells_just(told[2:4], after)
                self.assertEqual(told[4], [len(word) - 1, *plain_levels(after, word)[1:-1], plain_steps(after, word)])
                gaps = plain_parted(after, word, left, right)
                self.assertEqual(told[5], [len(gaps), *gaps])
                before = after

    def tells_just(self, told, patterns):
        """Promise 1: what table and store tell is told of just the patterns, by nodes that are all unlike."""
        self.assertEqual(told[0], plain_sizes(patterns))
        self.assertEqual(told[1][1:], plain_table(patterns))
        nodes, first = stored_nodes(told[1][1:])
        self.assertEqual(told_ends(nodes, first), sorted(plain_signs(pattern) for pattern in patterns))
        tellings = [tuple(told_ends(nodes, number)) for number in range(len(nodes))]
        self.assertEqual(len(set(tellings)), len(nodes))

    def test_many_changes_on_one_object(self):
        chance = random.Random(12)
        for turn in range(30):
            patterns = some_patterns(chance, "abc", 38)
            changes = self.some_changes(chance, patterns, "abc", 40)[:29]
            calls = [call for change, after in changes for call in (change, [STORE])]
            told = self.changed(patterns, *calls)
            for (change, after), stored in zip(changes, told[1::2]):
                self.assertEqual(stored[1:], plain_table(after))

    def test_in_whatever_order_patterns_come_the_table_is_the_same(self):
        chance = random.Random(13)
        for turn in range(40):
            patterns = some_patterns(chance, "abc", 25)
            expected = ask(load(text_of(patterns)), [STORE])[1]
            mixed = chance.sample(patterns, len(patterns))
            kept = chance.randint(0, len(mixed))
            told = self.changed(mixed[:kept], *[add(pattern) for pattern in mixed[kept:]], [STORE])
            self.assertEqual(told[-1], expected)

    def test_taken_out_again_the_table_is_as_it_was(self):
        chance = random.Random(14)
        for turn in range(150):
            patterns = some_patterns(chance, "abc", 20)
            known = [plain_signs(pattern)[0] for pattern in patterns]
            for pattern in some_patterns(chance, "abc", 3):
                if plain_signs(pattern)[0] in known:
                    continue
                told = self.changed(patterns, [TABLE], [STORE], add(pattern), [STORE], drop(len(patterns)),
                                    [TABLE], [STORE])
                self.assertEqual(told[5:], told[:2])
                nodes, first = stored_nodes(told[3][1:])
                self.assertEqual(told_ends(nodes, first), sorted(map(plain_signs, patterns + [pattern])))

    def test_what_is_put_in_is_told_and_checks(self):
        told = ask(load(WORKED), add(".b3c."), [STORE], check(plain_table(WORKED_PATTERNS)),
                   check(plain_table(WORKED_PATTERNS + [".b3c."])))
        self.assertEqual(told[3], [0, 1, 7])
        self.assertEqual(told[4], [1, 1, told[2][1]])


if __name__ == "__main__":
    unittest.main()
