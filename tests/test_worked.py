"""The worked text of the document, as far as load, table, store, levels and part go."""

import unittest

from tests.helper import STORE, TABLE, WORKED, ask, levels, load, part

STORED = [41,
          7,
          1, 3, 0, 2, 0, 0,
          0, 1, 98, 0,
          0, 1, 97, 1,
          1, 3, 1, 0, 0, 0,
          0, 1, 97, 3,
          1, 2, 0, 1, 1, 97, 3,
          0, 3, 0, 2, 98, 4, 99, 5,
          6]


class Worked(unittest.TestCase):
    def test_each_call_alone(self):
        for call, answer in [([TABLE], [4, 7, 7, 3, 8]),
                             ([STORE], STORED),
                             (levels("bac"), [2, 0, 0, 9]),
                             (levels("ab"), [1, 2, 8]),
                             (part("cab"), [1, 1])]:
            self.assertEqual(ask(load(WORKED), call), [[1, 0, 4], answer])

    def test_all_in_one_list(self):
        told = ask(load(WORKED), [TABLE], [STORE], levels("bac"), levels("ab"), part("cab"))
        self.assertEqual(told, [[1, 0, 4], [4, 7, 7, 3, 8], STORED, [2, 0, 0, 9], [1, 2, 8], [1, 1]])


if __name__ == "__main__":
    unittest.main()
