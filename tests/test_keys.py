"""bitrail.keys: point 12, and over it point 2."""

import unittest

from bitrail.keys import divided, product
from tests.helper import RailCase, some_numbers

LONG = 2 ** 300 - 1


def powers_of(number):
    return [k for k, sign in enumerate(reversed(format(number, "b"))) if sign == "1"]


def plain_product(one, other):
    """The product by the powers themselves: each pair of them adds one, and two alike ones are none."""
    held = {}
    for k in powers_of(one):
        for j in powers_of(other):
            held[k + j] = not held.get(k + j, False)
    return sum(2 ** power for power in held if held[power])


class ProductTest(RailCase):
    def test_nought_and_one(self):
        for number in [0, 1, 2, 3, 64647, 2 ** 299, LONG] + some_numbers(1, 20, 300):
            self.assert_number(product(number, 0), 0)
            self.assert_number(product(0, number), 0)
            self.assert_number(product(number, 1), number)
            self.assert_number(product(1, number), number)

    def test_lone_powers(self):
        for one in (0, 1, 2, 17, 150, 299):
            for other in (0, 1, 2, 17, 150, 299):
                self.assert_number(product(2 ** one, 2 ** other), 2 ** (one + other))

    def test_there_are_no_carries(self):
        self.assert_number(product(3, 3), 5)
        self.assert_number(product(7, 3), 9)
        self.assert_number(product(product(3, 131), 171), 64647)

    def test_small_numbers(self):
        for one in range(33):
            for other in range(33):
                self.assert_number(product(one, other), plain_product(one, other))

    def test_numbers_of_up_to_three_hundred_bits(self):
        numbers = some_numbers(2, 8, 300) + [LONG, LONG - 1, 2 ** 299 + 1]
        for one in numbers:
            for other in numbers:
                self.assert_number(product(one, other), plain_product(one, other))

    def test_the_other_way_round_and_over_a_sum(self):
        numbers = some_numbers(3, 12, 300) + [0, 1, LONG]
        for one in numbers:
            for other in numbers:
                self.assert_number(product(one, other), product(other, one))
                for third in numbers:
                    self.assertEqual(product(one, other ^ third), product(one, other) ^ product(one, third))


class DividedTest(RailCase):
    def assert_divided(self, number, key):
        told = divided(number, key)
        self.assertIs(type(told), tuple)
        self.assertEqual(len(told), 2)
        whole, rest = told
        self.assertIs(type(whole), int)
        self.assertIs(type(rest), int)
        self.assertGreaterEqual(whole, 0)
        self.assertGreaterEqual(rest, 0)
        self.assertLess(rest.bit_length(), key.bit_length())
        self.assertEqual(plain_product(whole, key) ^ rest, number)

    def test_the_one_answer_of_small_numbers(self):
        for key in range(1, 20):
            below = 2 ** (key.bit_length() - 1)
            for number in range(64):
                fitting = [
                    (whole, rest)
                    for whole in range(64)
                    for rest in range(below)
                    if plain_product(whole, key) ^ rest == number
                ]
                self.assertEqual([divided(number, key)], fitting)

    def test_some(self):
        self.assertEqual(divided(9, 3), (7, 0))
        self.assertEqual(divided(8, 3), (7, 1))
        self.assertEqual(divided(5, 3), (3, 0))
        self.assertEqual(divided(64647, 171), (product(3, 131), 0))

    def test_nought(self):
        for key in (1, 2, 3, 64647, 2 ** 299, LONG):
            self.assertEqual(divided(0, key), (0, 0))

    def test_the_key_one(self):
        for number in [0, 1, 2, 64647, LONG] + some_numbers(4, 20, 300):
            self.assertEqual(divided(number, 1), (number, 0))

    def test_a_lone_power(self):
        for number in [0, 1, 2, 64647, LONG] + some_numbers(5, 20, 300):
            for power in (0, 1, 5, 15, 150, 299):
                self.assertEqual(divided(number, 2 ** power), (number >> power, number % 2 ** power))

    def test_a_key_longer_than_the_number(self):
        for number in (0, 1, 2, 3, 100, 64647, 2 ** 200 - 1):
            bits = number.bit_length()
            for key in (2 ** bits, 2 ** (bits + 1) - 1, 2 ** (bits + 40) + 3, LONG):
                self.assertEqual(divided(number, key), (0, number))

    def test_a_key_as_long_as_the_number(self):
        for number in (1, 2, 3, 100, 64647, LONG):
            self.assertEqual(divided(number, number), (1, 0))
        self.assertEqual(divided(6, 5), (1, 3))
        self.assertEqual(divided(5, 6), (1, 3))

    def test_the_key_of_the_check(self):
        for number in [1, 2 ** 15, 64646, 64647, 64648, 65535, LONG] + some_numbers(6, 60, 300):
            self.assert_divided(number, 64647)
            self.assertEqual(divided(plain_product(number % 2 ** 280, 64647), 64647), (number % 2 ** 280, 0))

    def test_numbers_and_keys_of_up_to_three_hundred_bits(self):
        numbers = some_numbers(7, 12, 300) + [LONG, 2 ** 299]
        keys = [key for key in some_numbers(8, 16, 300) if key != 0] + [3, 131, 171, LONG, 2 ** 299 + 1]
        for number in numbers:
            for key in keys:
                self.assert_divided(number, key)

    def test_the_key_nought_is_refused(self):
        for number in (0, 1, 2, 64647, LONG):
            self.assert_refused("NoKey", divided, number, 0)


if __name__ == "__main__":
    unittest.main()
