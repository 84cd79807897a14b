"""bitrail.names: points 10 and 11, and over them point 2."""

import copy
import unittest

from bitrail.names import duel, is_name, is_wanted
from tests.helper import FAR, RailCase, some_numbers


def plain_duel(names):
    """The duel by the texts of the names' bits."""
    rows = [format(name, "08b") for name in names]
    told = []
    for place in range(8):
        least = min(row[place] for row in rows)
        rows = [row for row in rows if row[place] == least]
        told.append((int(least), [int(row, 2) for row in rows]))
    return told


def unlike_names(seed, many):
    told = []
    for number in some_numbers(seed, 40 * many, 60):
        if number % 256 not in told:
            told.append(number % 256)
    return told[:many]


class IsNameTest(RailCase):
    def test_all_names(self):
        for number in range(256):
            self.assertIs(is_name(number), True)

    def test_numbers_that_are_none(self):
        for number in FAR:
            self.assertIs(is_name(number), False)


class IsWantedTest(RailCase):
    def test_the_mask_nought_wants_all_or_none(self):
        for name in range(256):
            self.assertIs(is_wanted((0, 0), name), True)
            self.assertIs(is_wanted((0, 1), name), False)
            self.assertIs(is_wanted((0, 255), name), False)

    def test_the_full_mask_wants_one_name(self):
        for match in (0, 1, 128, 170, 254, 255):
            for name in range(256):
                self.assertIs(is_wanted((255, match), name), name == match)

    def test_a_match_with_a_bit_that_the_mask_has_not_wants_none(self):
        for choice in ((15, 16), (15, 31), (254, 1), (127, 128), (1, 3)):
            for name in range(256):
                self.assertIs(is_wanted(choice, name), False)

    def test_some_choices(self):
        self.assertIs(is_wanted((240, 48), 48), True)
        self.assertIs(is_wanted((240, 48), 63), True)
        self.assertIs(is_wanted((240, 48), 64), False)
        self.assertIs(is_wanted((240, 48), 32), False)
        self.assertIs(is_wanted((129, 129), 255), True)
        self.assertIs(is_wanted((129, 129), 128), False)

    def test_against_the_bits_one_by_one(self):
        for mask in (1, 3, 15, 85, 128, 170, 200, 240, 254):
            for match in range(0, 256, 5):
                for name in range(256):
                    masked = sum(1 << k for k in range(8) if name // 2 ** k % 2 and mask // 2 ** k % 2)
                    self.assertIs(is_wanted((mask, match), name), masked == match)


class DuelTest(RailCase):
    def assert_duel(self, names):
        told = self.told(duel, names)
        self.assertIs(type(told), list)
        self.assertEqual(told, plain_duel(names))
        self.assertEqual(len(told), 8)
        self.assertEqual(told[7][1], [min(names)])
        for pair in told:
            self.assertIs(type(pair), tuple)
            self.assertIs(type(pair[0]), int)
            self.assertIs(type(pair[1]), list)

    def test_one_name(self):
        for name in range(256):
            self.assert_duel([name])
        self.assertEqual(duel([5]), [(0, [5])] * 5 + [(1, [5]), (0, [5]), (1, [5])])

    def test_three_names(self):
        all_three = [200, 100, 101]
        two = [100, 101]
        self.assertEqual(
            duel(all_three),
            [(0, two), (1, two), (1, two), (0, two), (0, two), (1, two), (0, two), (0, [100])],
        )

    def test_names_unlike_in_the_last_bit_alone(self):
        for low in (0, 6, 126, 128, 254):
            for names in ([low, low + 1], [low + 1, low]):
                self.assert_duel(names)
                told = duel(names)
                self.assertEqual([pair[1] for pair in told[:7]], [names] * 7)
                self.assertEqual(told[7], (0, [low]))

    def test_names_unlike_in_the_first_bit(self):
        self.assert_duel([128, 0])
        self.assertEqual(duel([255, 127])[0], (0, [127]))

    def test_two_names(self):
        for one in range(0, 256, 7):
            for other in range(0, 256, 11):
                if one != other:
                    self.assert_duel([one, other])

    def test_many_names(self):
        for seed in range(60):
            names = unlike_names(seed, 2 + seed % 19)
            self.assertEqual(len(names), 2 + seed % 19)
            self.assert_duel(names)
        self.assert_duel(unlike_names(3, 20))

    def test_the_order_is_that_of_the_names_handed_in(self):
        self.assertEqual(duel([9, 8, 11, 10])[5][1], [9, 8, 11, 10])
        self.assertEqual(duel([9, 8, 11, 10])[6], (0, [9, 8]))
        self.assertEqual(duel([10, 8, 11, 9])[6], (0, [8, 9]))

    def test_more_names_than_the_bound_are_not_refused(self):
        self.assert_duel(list(range(40, 10, -1)))

    def test_no_names_are_refused(self):
        self.assert_refused("NoName", duel, [])

    def test_two_alike_names_are_refused(self):
        for names in ([0, 0], [255, 255], [1, 2, 1], [3, 1, 1], [1, 1, 3], [4, 4, 4], list(range(19)) + [0]):
            self.assert_refused("NoName", duel, names)

    def test_numbers_that_are_no_names_are_refused(self):
        for number in FAR:
            for names in ([number], [number, 0, 1], [0, number, 255], [0, 1, number], [number, number]):
                self.assert_refused("NoName", duel, names)

    def test_each_told_list_is_the_askers_own(self):
        names = [9, 8, 11]
        expected = duel(list(names))
        for place in range(8):
            told = self.told(duel, names)
            told[place][1].append(77)
            told[place][1][0] = 78
            self.assertEqual(told[:place] + told[place + 1:], expected[:place] + expected[place + 1:])
            self.assertEqual(self.told(duel, names), expected)

    def test_what_is_handed_in_may_be_changed_later(self):
        for names in ([9, 8, 11], [7]):
            told = duel(names)
            expected = copy.deepcopy(told)
            names.clear()
            self.assertEqual(told, expected)
        self.assert_own_list(duel, [9, 8, 11])


if __name__ == "__main__":
    unittest.main()
