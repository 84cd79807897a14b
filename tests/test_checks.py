"""bitrail.checks: points 13, 14 and 15, and over them point 2."""

import itertools
import unittest

from bitrail import checks
from bitrail.checks import check_of, is_unseen, rest_of, rests_of
from tests.helper import RailCase, some_bits, some_numbers

POWERS = [0, 1, 2, 7, 10, 11, 12, 13, 14, 15]
LENGTHS = (0, 1, 2, 14, 15, 16, 17, 27, 83, 112, 126, 127, 128, 200, 284, 285, 286, 299, 300)


def plain_rest(bits):
    """The rest by a shift register: the bits go in one by one, and the key is summed in where one falls out."""
    held = [0] * 15
    for bit in bits:
        out = held[14]
        held = [bit] + held[:14]
        if out:
            for power in POWERS[:-1]:
                held[power] ^= 1
    return sum(2 ** power for power in range(15) if held[power])


class KeyTest(RailCase):
    def test_the_key(self):
        self.assert_number(checks.KEY, 64647)
        self.assertEqual(sum(2 ** power for power in POWERS), checks.KEY)

    def test_it_is_the_product_of_its_parts(self):
        held = {}
        for one, other, third in itertools.product((0, 1), (0, 1, 7), (0, 1, 3, 5, 7)):
            held[one + other + third] = not held.get(one + other + third, False)
        self.assertEqual(sum(2 ** power for power in (0, 1)), 3)
        self.assertEqual(sum(2 ** power for power in (0, 1, 7)), 131)
        self.assertEqual(sum(2 ** power for power in (0, 1, 3, 5, 7)), 171)
        self.assertEqual(sorted(power for power in held if held[power]), POWERS)


class RestTest(RailCase):
    def test_no_bits_and_noughts(self):
        for many in range(301):
            self.assert_number(self.told(rest_of, [0] * many), 0)

    def test_few_bits_are_their_own_rest(self):
        self.assert_number(rest_of([1]), 1)
        self.assert_number(rest_of([1] * 15), 2 ** 15 - 1)
        self.assert_number(rest_of([1] + [0] * 14), 2 ** 14)
        for number in range(64):
            self.assert_number(rest_of([int(sign) for sign in format(number, "09b")]), number)

    def test_the_first_bits_that_are_not(self):
        self.assert_number(rest_of([1] + [0] * 15), 64647 - 2 ** 15)
        self.assert_number(rest_of([int(sign) for sign in format(64647, "b")]), 0)
        self.assert_number(rest_of([int(sign) for sign in format(64647, "b")] + [0] * 40), 0)
        self.assert_number(rest_of([int(sign) for sign in format(64646, "b")]), 1)

    def test_bits_of_many_lengths(self):
        for many in LENGTHS:
            for bits in [[1] * many] + [some_bits(seed, many) for seed in range(12)]:
                self.assert_number(self.told(rest_of, bits), plain_rest(bits))


class CheckTest(RailCase):
    def assert_check(self, bits):
        check = self.told(check_of, bits)
        self.assert_bits(check, [int(sign) for sign in format(plain_rest(bits + [0] * 15), "015b")])
        self.assertEqual(plain_rest(bits + check), 0)
        self.assertEqual(rest_of(bits + check), 0)

    def test_no_bits_and_noughts(self):
        for many in (0, 1, 14, 15, 100, 285):
            self.assert_bits(check_of([0] * many), [0] * 15)

    def test_some(self):
        self.assert_bits(check_of([1]), [int(sign) for sign in format(64647 - 2 ** 15, "015b")])
        self.assert_bits(check_of([0, 1]), check_of([1]))

    def test_bits_of_many_lengths(self):
        for many in LENGTHS[:LENGTHS.index(285) + 1]:
            for bits in [[1] * many] + [some_bits(seed, many) for seed in range(12)]:
                self.assert_check(bits)

    def test_with_any_other_fifteen_the_rest_is_not_nought(self):
        for bits in ([], [1], some_bits(5, 60)):
            check = int("".join(str(bit) for bit in check_of(bits)), 2)
            ahead = rest_of(bits + [0] * 15)
            for number in range(2 ** 15):
                self.assertEqual((ahead ^ number) == 0, number == check)
        for bits in ([], [1], some_bits(6, 20), some_bits(7, 285)):
            check = check_of(bits)
            for number in [1, 2 ** 14, 2 ** 15 - 1] + [1 + one % (2 ** 15 - 1) for one in some_numbers(3, 300, 40)]:
                other = [bit ^ int(sign) for bit, sign in zip(check, format(number, "015b"))]
                self.assertNotEqual(rest_of(bits + other), 0)

    def test_a_told_check_is_the_askers_own(self):
        self.assert_own_list(check_of, [1, 0, 1])
        self.assert_own_list(check_of, [])


class RestsTest(RailCase):
    def test_lists_of_many_lengths(self):
        expected = [plain_rest([1] + [0] * place) for place in range(310)]
        for many in (0, 1, 2, 14, 15, 16, 126, 127, 128, 129, 254, 255, 299, 300, 310):
            told = rests_of(many)
            self.assertIs(type(told), list)
            self.assertEqual(told, expected[:many])
            self.assertTrue(all(type(rest) is int for rest in told))

    def test_they_come_round_at_127(self):
        told = rests_of(300)
        self.assertEqual(told[:3], [1, 2, 4])
        self.assertEqual(told[15], 64647 - 2 ** 15)
        self.assertEqual(told[127], 1)
        self.assertEqual(told[254], 1)
        self.assertNotIn(1, told[1:127])
        self.assertEqual(told[127:254], told[:127])

    def test_a_told_list_is_the_askers_own(self):
        self.assert_own_list(rests_of, 20)


class UnseenTest(RailCase):
    def assert_unseen(self, places, expected):
        for order in (places, places[::-1], sorted(places, key=lambda place: place * 37 % 101)):
            self.assertIs(self.told(is_unseen, order), expected)

    def test_no_place_and_one(self):
        self.assert_unseen([], True)
        for place in range(300):
            self.assert_unseen([place], False)

    def test_the_powers_of_the_key_shifted(self):
        for shift in range(285):
            row = [power + shift for power in POWERS]
            self.assert_unseen(row, True)
            for left_out in range(len(row)):
                self.assert_unseen(row[:left_out] + row[left_out + 1:], False)
            for more in (0, 299, shift + 3, (shift * 7) % 300):
                if more not in row:
                    self.assert_unseen(row + [more], False)

    def test_two_places_127_apart(self):
        for place in range(173):
            self.assert_unseen([place, place + 127], True)
            self.assert_unseen([place, place + 126], False)
            self.assert_unseen([place, place + 127, 5 if place != 5 and place != 134 else 6], False)
        self.assert_unseen([3, 257], True)

    def test_just_where_the_rest_of_bits_stays(self):
        for seed in range(200):
            bits = some_bits(seed, 300)
            places = sorted({number % 300 for number in some_numbers(seed, 2 + seed % 9, 30)})
            if seed % 3 == 0:
                places = [power + seed for power in POWERS]
            if seed % 3 == 1:
                places = sorted({power + seed for power in POWERS} ^ {power + 2 * seed % 280 for power in POWERS})
            turned = list(bits)
            for place in places:
                turned[299 - place] ^= 1
            stays = plain_rest(turned) == plain_rest(bits)
            if seed % 3 != 2:
                self.assertTrue(stays)
            self.assert_unseen(places, stays)
            self.assertEqual(rest_of(turned) == rest_of(bits), stays)


class SeenChangesTest(RailCase):
    def test_one_to_five_changed_bits_of_up_to_127(self):
        # By point 14 a row of places goes unseen just where the sum of its rests is 0: here no five of them have it.
        rests = rests_of(127)
        self.assertNotIn(0, rests)
        self.assertEqual(len(set(rests)), 127)
        pairs = {}
        for one, other in itertools.combinations(range(127), 2):
            pairs.setdefault(rests[one] ^ rests[other], []).append((one, other))
        for one, rest in enumerate(rests):
            self.assertNotIn(rest, pairs, "three places have the sum 0")
        for some in pairs.values():
            self.assertEqual(len(some), 1, "four places have the sum 0")
        for rows in itertools.combinations(range(127), 3):
            total = rests[rows[0]] ^ rests[rows[1]] ^ rests[rows[2]]
            for pair in pairs.get(total, []):
                self.assertFalse(len({*rows, *pair}) == 5, "five places have the sum 0")

    def test_some_such_changes_of_bits(self):
        for seed in range(300):
            many = 15 + seed % 113
            bits = some_bits(seed, many - 15)
            bits = bits + check_of(bits)
            places = sorted({number % many for number in some_numbers(seed, 1 + seed % 5, 30)})
            for place in places:
                bits[place] ^= 1
            self.assertNotEqual(rest_of(bits), 0)
            self.assertFalse(is_unseen([many - 1 - place for place in places]))

    def test_all_bursts_at_one_place(self):
        # A burst is a number below 2 ** 15 moved up, and by the key's highest and lowest power none of them has rest 0.
        for number in range(1, 2 ** 15):
            self.assertIs(rest_of([int(sign) for sign in format(number, "b")]) == 0, False)

    def test_bursts_anywhere(self):
        for many in (15, 16, 27, 83, 127, 128, 200, 300):
            bits = some_bits(many, many - 15)
            bits = bits + check_of(bits)
            for start in range(many - 14):
                for number in (1, 2 ** 14, 2 ** 14 + 1, 2 ** 15 - 1, 1 + start * 97 % (2 ** 15 - 1)):
                    turned = list(bits)
                    for place, sign in enumerate(format(number, "015b")):
                        turned[start + place] ^= int(sign)
                    self.assertNotEqual(rest_of(turned), 0)

    def test_a_burst_of_sixteen_may_go_unseen(self):
        self.assertIs(is_unseen([power + 60 for power in POWERS]), True)


if __name__ == "__main__":
    unittest.main()
