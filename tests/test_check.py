"""Check: promise 3, tables told as numbers and read again; and tables that are not right, or tell something else."""

import random
import unittest

from tests.helper import GREATEST, LEAST, STORE, WORKED, WORKED_PATTERNS, add, ask, check, drop, greatest_patterns
from tests.helper import load, nodes_as_numbers, plain_check, plain_nodes, plain_signs, plain_table, some_patterns
from tests.helper import stored_nodes, text_of

# The table of "a1": node 0 is its end, from node 1 on one goes by a.
A1 = [2, 1, 2, 0, 1, 0, 0, 1, 97, 0, 1]
END_OF_A1 = ((0, 1), ())


class CheckCase(unittest.TestCase):
    def checked(self, patterns, *tables):
        told = ask(load(text_of(patterns)), *[check(table) for table in tables], [STORE])
        self.assertEqual(told[-1][1:], plain_table(patterns))
        return told[1:-1]

    def checks(self, patterns, numbers, answer):
        self.assertEqual(self.checked(patterns, numbers), [answer], numbers)

    def of_nodes(self, patterns, nodes, first, answer):
        """These nodes, each (digits or None, ways), get this answer; so they do of the plain one."""
        numbers = nodes_as_numbers(nodes, first)
        self.assertEqual(plain_check(patterns, numbers), answer)
        self.checks(patterns, numbers, answer)


class Worked(CheckCase):
    def test_worked_answers(self):
        told = ask(load(WORKED), add("c3"), drop(2),
                   check([4, 1, 3, 1, 0, 0, 0, 0, 1, 97, 0, 1, 2, 0, 3, 1, 97, 0, 0, 2, 98, 1, 99, 2, 3]),
                   check([1, 0, 0, 0]))
        self.assertEqual(told[3:], [[1, 1, 4], [0, 1, 1]])


class Stored(CheckCase):
    def test_a_stored_table_checks(self):
        chance = random.Random(21)
        for turn in range(150):
            patterns = some_patterns(chance, chance.choice(["ab", "abc", "abcdefgh"]), 40)
            told = ask(load(text_of(patterns)), [STORE])[1]
            self.checks(patterns, told[1:], [1, 1, told[1]])

    def test_a_stored_table_of_add_and_drop_checks(self):
        told = ask(load(WORKED), add("1ab."), drop(0), [STORE])[3]
        self.assertEqual(ask(load(WORKED), add("1ab."), drop(0), check(told[1:]))[3], [1, 1, told[1]])
        self.assertEqual(ask(load(WORKED), add("1ab."), check(told[1:]))[2], [0, 1, told[1]])

    def test_the_greatest_tables_check(self):
        patterns = greatest_patterns()
        numbers = ask(load(text_of(patterns)), [STORE])[1][1:]
        self.assertLessEqual(len(numbers), 2000)
        self.checks(patterns, numbers, [1, 1, 282])

    def test_with_its_nodes_in_another_order(self):
        chance = random.Random(22)
        moved = 0
        for turn in range(100):
            patterns = some_patterns(chance, "abc", 12)
            nodes, numbers = plain_nodes(patterns)
            others, first = self.in_another_order(chance, nodes, numbers[()])
            moved += others != nodes
            self.of_nodes(patterns, others, first, [1, 1, len(nodes)])
        self.assertGreater(moved, 50)

    def in_another_order(self, chance, nodes, first):
        """The same nodes, each still behind those to which it goes on."""
        renumbered, others = {}, []
        while len(others) < len(nodes):
            ready = [number for number, (digits, ways) in enumerate(nodes)
                     if number not in renumbered and all(onward in renumbered for sign, onward in ways)]
            number = chance.choice(ready)
            renumbered[number] = len(others)
            digits, ways = nodes[number]
            others.append((digits, tuple((sign, renumbered[onward]) for sign, onward in ways)))
        return others, renumbered[first]

    def test_without_sharing(self):
        patterns = ["ab1", "cb1"]
        end = ((0, 0, 1), ())
        self.of_nodes(patterns, [end, end, (None, ((98, 0),)), (None, ((98, 1),)), (None, ((97, 2), (99, 3)))], 4,
                      [1, 1, 5])

    def test_no_patterns(self):
        self.checks([], [1, 0, 0, 0], [1, 1, 1])
        self.checks([], [2, 0, 0, 0, 1, 97, 0, 1], [1, 1, 2])
        self.checks([], [2, 1, 2, 0, 1, 0, 0, 0, 1], [1, 1, 2])
        self.checks([], A1, [0, 1, 2])
        self.checks([], [1, 1, 0, 0, 0], [0, 1, 1])
        self.checks([], [0, 0], [0, 0, 0])


class NotToldSo(CheckCase):
    def test_none(self):
        self.checks(["a1"], [], [-4])

    def test_one_number_too_few_or_more(self):
        for patterns in ["a1"], WORKED_PATTERNS, []:
            numbers = plain_table(patterns)
            self.checks(patterns, numbers, [1, 1, numbers[0]])
            for length in range(len(numbers)):
                self.checks(patterns, numbers[:length], [-4])

    def test_one_number_too_many(self):
        for number in 0, 1, 97, GREATEST:
            self.checks(["a1"], A1 + [number], [-4])
            self.checks(["a1"], [1, 0, 0, 0, number], [-4])
            self.checks(["a1"], [0, 0, number], [-4])

    def test_a_marker_that_is_neither_0_nor_1(self):
        for marker in 2, 3, 97, GREATEST:
            self.checks(["a1"], [2, marker, 2, 0, 1, 0, 0, 1, 97, 0, 1], [-4])
            self.checks(["a1"], [1, marker, 0, 0], [-4])
            self.checks(["a1"], [1, marker, 0, 0, 0], [-4])
            self.checks(["a1"], [2, 1, 2, 0, 1, 0, marker, 1, 97, 0, 1], [-4])

    def test_counts_that_are_too_great(self):
        for count in 3, 4, 300, 1000, GREATEST:
            self.checks(["a1"], [count] + A1[1:], [-4])
            self.checks(["a1"], [2, 1, count] + A1[3:], [-4])
            self.checks(["a1"], A1[:7] + [count] + A1[8:], [-4])

    def test_300_and_301_nodes(self):
        bare = [0, 0]
        self.checks(["a1"], [300] + bare * 300 + [0], [0, 1, 300])
        self.checks(["a1"], [300] + bare * 300 + [299], [0, 1, 300])
        self.checks(["a1"], [300] + bare * 300 + [300], [0, 0, 300])
        self.checks(["a1"], [301] + bare * 301 + [0], [-4])
        self.checks(["a1"], [301] + bare * 301 + [301], [-4])
        self.checks(["a1"], [300] + bare * 301 + [0], [-4])
        self.checks(["a1"], [302] + bare * 302 + [0], [-4])
        self.checks(["a1"], [300] + A1[1:6] + bare * 298 + [0, 1, 97, 0] + [299], [1, 1, 300])
        self.checks(["a1"], [301] + A1[1:6] + bare * 299 + [0, 1, 97, 0] + [300], [-4])

    def test_a_number_below_0(self):
        for at in range(len(A1)):
            for number in -1, -2, -97, LEAST:
                self.checks(["a1"], A1[:at] + [number] + A1[at + 1:], [-4])
        self.checks(["a1"], [-1], [-4])
        self.checks(["a1"], [-1, 0], [-4])
        self.checks(["a1"], [1, 1, -1, 0, 0], [-4])
        # Counts below 0 that would lead back to numbers told before.
        self.checks([], [1, 1, -3, 0, 0, 0], [-4])
        self.checks([], [1, 0, -1, 0], [-4])

    def test_a_number_below_0_where_the_table_is_not_right(self):
        self.checks(["a1"], [1, 0, 1, -1, 0, 0], [-4])
        self.checks(["a1"], [1, 0, 1, 97, -1, 0], [-4])
        self.checks(["a1"], [1, 1, 1, -1, 0, 5], [-4])
        self.checks(["a1"], [1, 0, 0, -1], [-4])


class NotRight(CheckCase):
    def test_the_first_node_is_not_there(self):
        for first in 2, 3, 299, 300, GREATEST:
            self.checks(["a1"], A1[:-1] + [first], [0, 0, 2])
        for first in 0, 1, GREATEST:
            self.checks([], [0, first], [0, 0, 0])

    def test_a_node_that_goes_on_to_itself_or_to_a_later_one(self):
        for onward in 1, 2, 3, 300, GREATEST:
            self.checks(["a1"], A1[:9] + [onward] + A1[10:], [0, 0, 2])
        self.of_nodes(["a1"], [(None, ((97, 1),)), END_OF_A1], 0, [0, 0, 2])
        self.checks([], [1, 0, 1, 97, 0, 0], [0, 0, 1])
        self.checks([], [2, 0, 1, 97, 1, 0, 1, 97, 0, 1], [0, 0, 2])

    def test_signs_that_stand_twice_or_out_of_order(self):
        for signs, right in [((97, 97), 0), ((98, 97), 0), ((97, 98), 1), ((0, 0), 0), ((97, 0), 0), ((0, 97), 1),
                             ((97, 98, 97), 0), ((97, 99, 98), 0), ((97, 98, 98), 0), ((97, 98, GREATEST), 1)]:
            # Node 1 tells nothing, so that it's right to go on to it by whatever sign.
            ways = tuple((sign, 0 if sign == 97 else 1) for sign in signs)
            self.checks(["a1"], nodes_as_numbers([END_OF_A1, (None, ()), (None, ways)], 2), [right, right, 3])

    def test_also_at_nodes_to_which_the_first_one_does_not_come(self):
        for ways in [((97, 2),), ((97, 3),), ((97, 0), (97, 0)), ((98, 0), (97, 0))]:
            self.checks(["a1"], nodes_as_numbers([END_OF_A1, (None, ((97, 0),)), (None, ways)], 1), [0, 0, 3])


class OtherEnds(CheckCase):
    def test_one_pattern_too_few_or_too_many(self):
        for patterns in [WORKED_PATTERNS, ["a1"], ["a1", "ab1", ".a1"], ["ab1", "cb1"]]:
            for k in range(len(patterns)):
                fewer = patterns[:k] + patterns[k + 1:]
                self.checks(patterns, plain_table(fewer), [0, 1, plain_table(fewer)[0]])
                self.checks(fewer, plain_table(patterns), [0, 1, plain_table(patterns)[0]])

    def test_as_many_but_others(self):
        for patterns, others in [(["a1"], ["b1"]), (["a1"], [".a1"]), (["a1"], ["a1."]), (["ab1"], ["ba1"]),
                                 (["a1", "b2"], ["a2", "b1"]), (["ab1", "cd1"], ["ad1", "cb1"])]:
            self.checks(patterns, plain_table(others), [0, 1, plain_table(others)[0]])

    def test_other_digits(self):
        for digits in [(1, 0), (0, 2), (0, 0), (), (0,), (1,), (0, 1, 0), (0, 0, 1), (0, GREATEST), (0, 10)]:
            self.of_nodes(["a1"], [(digits, ()), (None, ((97, 0),))], 1, [0, 1, 2])
        self.of_nodes(["a1"], [END_OF_A1, (None, ((97, 0),))], 1, [1, 1, 2])

    def test_an_end_more_where_none_is(self):
        self.of_nodes(["ab1"], [((0, 0, 1), ()), (None, ((98, 0),)), (None, ((97, 1),))], 2, [1, 1, 3])
        self.of_nodes(["ab1"], [((0, 0, 1), ()), ((0, 1), ((98, 0),)), (None, ((97, 1),))], 2, [0, 1, 3])
        self.of_nodes(["ab1"], [((0, 0, 1), ()), (None, ((98, 0),)), ((1,), ((97, 1),))], 2, [0, 1, 3])
        self.of_nodes(["a1"], [END_OF_A1, (None, ((97, 0), (GREATEST, 0)))], 1, [0, 1, 2])
        self.of_nodes(["a1"], [((), ()), END_OF_A1, (None, ((97, 1), (98, 0)))], 2, [0, 1, 3])

    def test_another_first_node(self):
        nodes, numbers = plain_nodes(WORKED_PATTERNS)
        for first in range(6):
            self.of_nodes(WORKED_PATTERNS, nodes, first, [0, 1, 7])

    def test_ways_that_lead_to_no_end(self):
        nothing = (None, ())
        longer = [nothing, (None, ((0, 0), (97, 0))), END_OF_A1]
        self.of_nodes(["a1"], [END_OF_A1, nothing, (None, ((97, 0), (98, 1)))], 2, [1, 1, 3])
        self.of_nodes(["a1"], longer + [(None, ((0, 1), (97, 2), (GREATEST, 1)))], 3, [1, 1, 4])
        self.of_nodes(["a1"], [nothing, ((0, 1), ((98, 0),)), (None, ((97, 1),))], 2, [1, 1, 3])
        self.of_nodes(["a1"], [nothing, (None, ((97, 0),))], 1, [0, 1, 2])

    def test_nodes_to_which_the_first_one_does_not_come(self):
        self.of_nodes(["a1"], [((7,), ()), END_OF_A1, (None, ((97, 1),))], 2, [1, 1, 3])
        self.of_nodes(["a1"], [END_OF_A1, (None, ((97, 0),)), ((7,), ((97, 1),))], 1, [1, 1, 3])
        self.of_nodes(["a1"], [END_OF_A1, (None, ((97, 0),)), END_OF_A1, (None, ((98, 2), (99, 0)))], 1, [1, 1, 4])

    def test_very_many_ways_to_shared_ends(self):
        for ways in 1, 2, 3:
            nodes = [((5,), ())] + [(None, tuple((97 + k, number) for k in range(ways))) for number in range(200)]
            self.checks(["a1"], nodes_as_numbers(nodes, 200), [0, 1, 201])
        # None of so many ways leads to an end: the one that does tells all.
        nodes = [(None, ())] + [(None, tuple((97 + k, number) for k in range(2))) for number in range(250)]
        nodes += [END_OF_A1, (None, ((97, 251), (98, 250)))]
        self.checks(["a1"], nodes_as_numbers(nodes, 252), [1, 1, 253])
        self.checks(["b1"], nodes_as_numbers(nodes, 252), [0, 1, 253])

    def test_shared_ends_that_come_to_as_many_as_patterns(self):
        nodes = [((0, 0, 1), ()), (None, ((97, 0), (98, 0))), (None, ((97, 1), (98, 1)))]
        self.of_nodes(["aa1", "ab1", "ba1", "bb1"], nodes, 2, [1, 1, 3])
        self.of_nodes(["aa1", "ab1", "ba1", "bc1"], nodes, 2, [0, 1, 3])


class AgainstPlain(CheckCase):
    def test_changed_tables(self):
        chance = random.Random(23)
        found = {}
        for turn in range(1500):
            patterns = some_patterns(chance, "ab", 4)
            numbers = plain_table(patterns)
            tables = [self.changed(chance, numbers) for time in range(8)]
            for table, answer in zip(tables, self.checked(patterns, *tables)):
                self.assertEqual(answer, plain_check(patterns, table), (patterns, table))
                found[tuple(answer[:2])] = found.get(tuple(answer[:2]), 0) + 1
        self.assertEqual(set(found), {(-4,), (0, 0), (0, 1), (1, 1)})
        self.assertGreater(min(found.values()), 100)

    def changed(self, chance, numbers):
        numbers = list(numbers)
        for time in range(chance.choice([0, 1, 1, 2])):
            at = chance.randrange(len(numbers) + 1)
            number = chance.choice([0, 1, 2, 3, 97, 98, chance.choice([-1, 300, GREATEST])])
            numbers[at:at + chance.choice([0, 1, 1, 1])] = [number] * chance.choice([0, 1, 1, 1])
        return numbers

    def test_changed_nodes(self):
        chance = random.Random(24)
        found = {}
        for turn in range(1500):
            patterns = some_patterns(chance, "ab", 4)
            nodes, first = stored_nodes(plain_table(patterns))
            number = chance.randrange(len(nodes))
            digits, ways = nodes[number]
            what = chance.choice(["digits", "way", "way", "order", "none"])
            if what == "digits":
                digits = chance.choice([None, digits, (0, 1), (1, 0), ()])
            elif what == "way":
                way = (chance.choice([0, 97, 98, 99]), chance.randrange(len(nodes)))
                ways = tuple(sorted(ways + (way,)))
            elif what == "order":
                ways = tuple(chance.sample(ways, len(ways)))
            nodes[number] = (digits, ways)
            numbers = nodes_as_numbers(nodes, first)
            answer = plain_check(patterns, numbers)
            self.checks(patterns, numbers, answer)
            found[tuple(answer[:2])] = found.get(tuple(answer[:2]), 0) + 1
        self.assertEqual(set(found), {(0, 0), (0, 1), (1, 1)})
        self.assertGreater(min(found.values()), 100)

    def test_whatever_checks_tells_just_the_patterns(self):
        chance = random.Random(25)
        for turn in range(100):
            patterns, others = some_patterns(chance, "ab", 3), some_patterns(chance, "ab", 3)
            same = sorted(map(plain_signs, patterns)) == sorted(map(plain_signs, others))
            numbers = plain_table(others)
            self.checks(patterns, numbers, [int(same), 1, numbers[0]])


if __name__ == "__main__":
    unittest.main()
