"""bitrail.rows: the order in which points 29 and 30 go through rows."""

import itertools
import unittest

from bitrail.rows import rows_of
from tests.helper import RailCase


class RowsTest(RailCase):
    def test_some(self):
        self.assertEqual(self.told(rows_of, [7, 5, 6], 2), [[], [7], [5], [6], [7, 5], [7, 6], [5, 6]])
        self.assertEqual(rows_of([], 3), [[]])
        self.assertEqual(rows_of([4], 3), [[], [4]])
        self.assertEqual(rows_of([4, 5], 0), [[]])

    def test_all_of_up_to_twelve_things(self):
        for many in range(13):
            things = [(3 * place % 13, place) for place in range(many)]
            for most in range(4):
                expected = [list(row) for size in range(most + 1) for row in itertools.combinations(things, size)]
                self.assertEqual(rows_of(things, most), expected)


if __name__ == "__main__":
    unittest.main()
