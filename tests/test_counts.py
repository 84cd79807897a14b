"""bitrail.counts: point 19, its first sentences."""

import itertools
import unittest

from bitrail.counts import Count
from tests.helper import RailCase

STEPS = {"spoke": 8, "did not": 1, "blame": 8, "good": -1}


def do(count, step):
    if step == "spoke":
        return count.fault(True)
    if step == "did not":
        return count.fault(False)
    return count.blame() if step == "blame" else count.good()


class CountTest(RailCase):
    def assert_count(self, count, number):
        self.assert_number(count.number(), number)
        self.assertIs(count.is_quiet(), number >= 12)
        self.assertIs(count.is_off(), number >= 18)

    def assert_steps(self, steps):
        count = Count()
        number = 0
        self.assert_count(count, 0)
        for step in steps:
            if number < 18:
                number = max(0, number + STEPS[step])
            self.assertIsNone(do(count, step))
            self.assert_count(count, number)

    def test_a_new_count(self):
        self.assert_count(Count(), 0)

    def test_each_step_alone(self):
        for step, number in (("spoke", 8), ("did not", 1), ("blame", 8), ("good", 0)):
            count = Count()
            do(count, step)
            self.assert_count(count, number)

    def test_never_below_nought(self):
        count = Count()
        for _ in range(5):
            count.good()
            self.assert_count(count, 0)
        count.fault(False)
        self.assert_count(count, 1)
        count.good()
        count.good()
        self.assert_count(count, 0)
        count.blame()
        self.assert_count(count, 8)

    def test_quiet_from_twelve_and_off_from_eighteen(self):
        count = Count()
        for number in range(1, 18):
            count.fault(False)
            self.assert_count(count, number)
        for number in range(16, -1, -1):
            count.good()
            self.assert_count(count, number)
        for number in range(1, 19):
            count.fault(False)
            self.assert_count(count, number)

    def test_no_change_behind_off(self):
        for number in range(18, 26):
            for step in STEPS:
                count = Count()
                for _ in range(number - 8):
                    count.fault(False)
                count.blame()
                self.assert_count(count, number)
                for _ in range(30):
                    do(count, step)
                    self.assert_count(count, number)

    def test_all_short_orders(self):
        for many in range(7):
            for steps in itertools.product(STEPS, repeat=many):
                self.assert_steps(steps)

    def test_two_counts_are_apart(self):
        one = Count()
        other = Count()
        one.blame()
        self.assert_count(other, 0)
        self.assert_count(one, 8)


if __name__ == "__main__":
    unittest.main()
