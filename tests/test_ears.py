"""bitrail.ears: point 25, and over it point 2."""

import unittest

from bitrail.ears import ear
from tests.helper import RailCase


class EarTest(RailCase):
    def assert_ear(self, heard, wrong):
        for post in range(7):
            for turn in list(range(12)) + [19999, 20000, 10 ** 99]:
                for bit in (0, 1):
                    expected = 1 - bit if (post, turn) in wrong else bit
                    self.assert_number(heard(post, turn, bit), expected)

    def test_no_pairs(self):
        self.assert_ear(self.told(ear, []), [])

    def test_some_pairs(self):
        for wrong in ([(0, 0)], [(1, 5), (5, 1)], [(0, 3), (0, 4), (4, 0), (2, 11)], [(3, 19999), (4, 10 ** 99)]):
            self.assert_ear(self.told(ear, wrong), wrong)

    def test_a_pair_told_twice(self):
        for wrong in ([(1, 5), (1, 5)], [(1, 5)] * 3, [(2, 2), (1, 5), (2, 2), (1, 5)]):
            self.assert_ear(ear(wrong), wrong)

    def test_asked_again_it_tells_the_same(self):
        heard = ear([(1, 5)])
        for _ in range(3):
            self.assertEqual([heard(1, 5, 0), heard(1, 5, 1), heard(1, 4, 0), heard(5, 1, 1)], [1, 0, 0, 1])

    def test_the_list_changed_behind_the_call(self):
        wrong = [(1, 5), (2, 6)]
        heard = ear(wrong)
        wrong.append((0, 0))
        wrong.pop(0)
        self.assert_ear(heard, [(1, 5), (2, 6)])
        wrong.clear()
        self.assert_ear(heard, [(1, 5), (2, 6)])

    def test_two_ears_are_apart(self):
        one = ear([(1, 5)])
        other = ear([(2, 6)])
        self.assert_ear(one, [(1, 5)])
        self.assert_ear(other, [(2, 6)])


if __name__ == "__main__":
    unittest.main()
