"""The worked text of the document, and what all calls answer of it."""

import unittest

from tests.helper import STORE, TABLE, WORKED, add, ask, check, drop, find, levels, load, node, part

STORED = [41,
          7,
          1, 3, 0, 2, 0, 0,
          0, 1, 98, 0,
          0, 1, 97, 1,
          1, 3, 1, 0, 0, 0,
          0, 1, 97, 3,
          1, 2, 0, 1, 1, 97, 3,
          0, 3, 0, 2, 98, 4, 99, 5,
          6]


class Worked(unittest.TestCase):
    def test_each_call_alone(self):
        for call, answer in [([TABLE], [4, 7, 7, 3, 8]),
                             ([STORE], STORED),
                             (levels("bac"), [2, 0, 0, 9]),
                             (levels("ab"), [1, 2, 8]),
                             (part("cab"), [1, 1]),
                             (find("c1a"), [1, 6, 5, 3]),
                             (find("b1"), [0, 6, 4]),
                             (node(5), [2, 1, 2, 0, 1, 1, 97, 3]),
                             (add("c3"), [4, 7, 7, 3, 8, 5]),
                             (drop(2), [3, 4, 4, 2, 5, 3]),
                             (check([1, 0, 0, 0]), [0, 1, 1])]:
            self.assertEqual(ask(load(WORKED), call), [[1, 0, 4], answer])

    def test_all_in_one_list(self):
        told = ask(load(WORKED), [TABLE], [STORE], levels("bac"), levels("ab"), part("cab"), find("c1a"), find("b1"),
                   node(5), add("c3"), drop(2),
                   check([4, 1, 3, 1, 0, 0, 0, 0, 1, 97, 0, 1, 2, 0, 3, 1, 97, 0, 0, 2, 98, 1, 99, 2, 3]),
                   check([1, 0, 0, 0]))
        self.assertEqual(told, [[1, 0, 4], [4, 7, 7, 3, 8], STORED, [2, 0, 0, 9], [1, 2, 8], [1, 1], [1, 6, 5, 3],
                                [0, 6, 4], [2, 1, 2, 0, 1, 1, 97, 3], [4, 7, 7, 3, 8, 5], [3, 4, 4, 2, 5, 3],
                                [1, 1, 4], [0, 1, 1]])


if __name__ == "__main__":
    unittest.main()
