"""Many calls in one list, refusals while there's no list, and nothing that's kept or changed."""

import random
import unittest

from patterntables.tables import answers
from tests.helper import GREATEST, LEAST, NO_PATTERNS, STORE, TABLE, WORKED, WORKED_PATTERNS, add, ask, check, drop
from tests.helper import find, levels, load, node, part, plain_changed, plain_check, plain_find, plain_levels, plain_node
from tests.helper import plain_parted, plain_sizes, plain_steps, plain_table, plain_with, some_patterns, some_word
from tests.helper import text_of

# Each call but load, with what is right and what is refused.
ALL_CALLS = [[TABLE], [STORE], levels("ab"), levels("A"), part("ab"), part(""), add("zz1"), add("zz"), drop(0), drop(-1),
             check([1, 0, 0, 0]), check([]), find("a1"), find(""), node(0), node(GREATEST)]


class Untouched(list):
    """A list that tells when it's changed, if only for a while."""

    def refuse(self, *given, **named):
        raise AssertionError("what is handed in was changed")

    append = extend = insert = pop = remove = reverse = sort = clear = refuse
    __setitem__ = __delitem__ = __iadd__ = __imul__ = refuse


class NoList(unittest.TestCase):
    def test_minus_1_while_there_is_no_list(self):
        told = ask([TABLE], [STORE], levels("ab"), part("ab"), load(WORKED), [TABLE])
        self.assertEqual(told, [[-1], [-1], [-1], [-1], [1, 0, 4], [4, 7, 7, 3, 8]])

    def test_minus_1_goes_before_minus_4(self):
        self.assertEqual(ask(levels(""), part("A"), levels("a" * 17)), [[-1], [-1], [-1]])

    def test_minus_1_still_behind_a_load_that_fails(self):
        told = ask(load("margins"), [TABLE], [STORE], levels("ab"), part("ab"))
        self.assertEqual(told, [[0, 3, 7], [-1], [-1], [-1], [-1]])

    def test_every_call_but_load(self):
        self.assertEqual(ask(*ALL_CALLS), [[-1]] * len(ALL_CALLS))
        self.assertEqual(ask(drop(LEAST), drop(GREATEST), node(LEAST), check([-1]), check([0] * 2000)), [[-1]] * 5)
        self.assertEqual(ask(*[add(pattern) for pattern in NO_PATTERNS]), [[-1]] * len(NO_PATTERNS))

    def test_every_call_behind_a_load_that_fails(self):
        for wrong in "", "margins 0 0", "!", "margins 0 0 ; pattern a1 ; pattern a1 ;", " " * 4097:
            self.assertEqual(ask(load(wrong), *ALL_CALLS)[1:], [[-1]] * len(ALL_CALLS))

    def test_a_refused_add_holds_no_list(self):
        told = ask(add("a1"), [TABLE], load(text_of([])), [TABLE])
        self.assertEqual(told, [[-1], [-1], [1, 0, 0], [0, 1, 0, 0, 1]])

    def test_a_load_that_fails_leaves_what_add_and_drop_made(self):
        asked = [[TABLE], [STORE], find("zz1"), node(3), check(plain_table(WORKED_PATTERNS[1:] + ["zz1"]))]
        told = ask(load(WORKED), add("zz1"), drop(0), *asked, load("margins 0 0 ; pattern a ;"), *asked)
        self.assertEqual(told[8], [0, 7, 22])
        self.assertEqual(told[9:], told[3:8])
        self.assertEqual(told[7][:2], [1, 1])

    def test_a_load_puts_what_add_and_drop_made_away(self):
        asked = [[TABLE], [STORE], find("zz1"), node(3), drop(3), add("c2")]
        told = ask(load(WORKED), add("zz1"), drop(0), load(WORKED), *asked)
        self.assertEqual(told[4:], ask(load(WORKED), *asked)[1:])


class ManyCalls(unittest.TestCase):
    def test_counts_stand_ahead(self):
        self.assertEqual(answers([1]), [1, -1])
        self.assertEqual(answers(load("margins 0 0 ;") + [1, 2] + levels("ab") + part("ab") + part("a")),
                         [3, 1, 0, 0, 5, 0, 1, 0, 0, 1, 5, 4, 1, 0, 0, 0, 3, 1, 0, 4, 1, 0, 1, -4])

    def test_what_is_asked_changes_nothing(self):
        asked = [[TABLE], [STORE], levels("cabac"), part("cabac"), levels("A"), part(""), check([1, 0, 0, 0]),
                 check(plain_table(WORKED_PATTERNS)), check([]), find("c1a"), find("zz1"), find("a"), node(6), node(7)]
        told = ask(load(WORKED), *(asked * 4))
        self.assertEqual(told[1:], told[1:15] * 4)

    def test_nothing_is_kept_from_one_time_to_the_next(self):
        ask(load(WORKED), [TABLE])
        self.assertEqual(ask([TABLE]), [[-1]])
        self.assertEqual(ask(load(text_of(["a1"])), [TABLE]), [[1, 0, 1], [1, 2, 1, 1, 2]])

    def test_the_list_handed_in_stays_and_is_not_given_back(self):
        calls = load(WORKED) + [STORE] + levels("bac") + load("!") + part("cab")
        before = list(calls)
        first = answers(calls)
        self.assertEqual(calls, before)
        again = answers(calls)
        self.assertEqual(first, again)
        first.clear()
        self.assertEqual(answers(calls), again)

    def test_what_is_handed_in_is_not_changed_for_a_while_either(self):
        for call in ALL_CALLS + [check(plain_table(WORKED_PATTERNS)), add("c3"), add(".c3"), drop(3), node(6)]:
            calls = Untouched(load(WORKED) + call + [STORE])
            before = list(calls)
            told = answers(calls)
            self.assertEqual(list(calls), before)
            self.assertIs(type(told), list)
            self.assertEqual(told, answers(before))

    def test_what_is_handed_in_may_be_changed_behind_it(self):
        calls = load(WORKED) + add("c3") + [STORE]
        told = answers(calls)
        before = list(told)
        calls.clear()
        self.assertEqual(told, before)

    def test_sixty_calls_of_all_kinds(self):
        chance = random.Random(9)
        for turn in range(40):
            plain = Plain()
            calls, expected = [], []
            for time in range(60):
                kind = chance.choice(["load", "wrong"] + ["levels", "part", "table", "add", "drop", "check", "find",
                                                          "node"] * 3)
                call, answer = getattr(plain, kind)(chance)
                calls.append(call)
                expected.append(answer)
            self.assertEqual(ask(*calls), expected)


class Plain:
    """Holds the patterns alone; each of its methods makes a call up and tells its answer, found the plain way."""

    def __init__(self):
        self.patterns = None
        self.margins = None

    def load(self, chance):
        self.patterns = some_patterns(chance, "abc", 12)
        self.margins = chance.randint(0, 5), chance.randint(0, 5)
        return load(text_of(self.patterns, ["ab", "b-a"], *self.margins)), [1, 2, len(self.patterns)]

    def wrong(self, chance):
        return load("margins 0 0 ; pattern c1 ; pattern 1"), [0, 7, 35]

    def table(self, chance):
        return [TABLE], [-1] if self.patterns is None else plain_sizes(self.patterns)

    def levels(self, chance):
        word = some_word(chance, "abc")
        if self.patterns is None:
            return levels(word), [-1]
        found = plain_levels(self.patterns, word)[1:-1]
        return levels(word), [len(found), *found, plain_steps(self.patterns, word)]

    def part(self, chance):
        word = some_word(chance, "abc")
        if self.patterns is None:
            return part(word), [-1]
        gaps = plain_parted(self.patterns, word, *self.margins)
        return part(word), [len(gaps), *gaps]

    def change(self, after):
        before = self.patterns
        self.patterns = after
        return plain_changed(before, after)

    def some_pattern(self, chance):
        if chance.random() < 0.1:
            return chance.choice(NO_PATTERNS), True
        return (some_patterns(chance, "abc", 3) + ["b1c"])[0], False

    def add(self, chance):
        pattern, is_none = self.some_pattern(chance)
        if self.patterns is None:
            return add(pattern), [-1]
        return add(pattern), [-4] if is_none else self.change(plain_with(self.patterns, pattern))

    def drop(self, chance):
        number = chance.randint(-1, 12)
        if self.patterns is None:
            return drop(number), [-1]
        if not 0 <= number < len(self.patterns):
            return drop(number), [-2]
        return drop(number), self.change(self.patterns[:number] + self.patterns[number + 1:])

    def check(self, chance):
        patterns = self.patterns or []
        others = chance.choice([patterns, patterns, chance.sample(patterns, len(patterns)), patterns[1:]])
        numbers = plain_table(others)
        if chance.random() < 0.3:
            numbers[chance.randrange(len(numbers))] = chance.choice([0, 1, 97, -1])
        return check(numbers), [-1] if self.patterns is None else plain_check(self.patterns, numbers)

    def find(self, chance):
        pattern, is_none = self.some_pattern(chance)
        if self.patterns is None:
            return find(pattern), [-1]
        return find(pattern), [-4] if is_none else plain_find(self.patterns, pattern)

    def node(self, chance):
        number = chance.randint(-1, 30)
        return node(number), [-1] if self.patterns is None else plain_node(self.patterns, number)


if __name__ == "__main__":
    unittest.main()
