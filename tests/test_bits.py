"""bitrail.bits: points 7, 8 and 9, and over them point 2."""

import itertools
import unittest

from bitrail.bits import bits_of, changed, drawn, longest_run, number_of, read_bits
from tests.helper import RailCase, some_bits, some_numbers

LENGTHS = (0, 1, 2, 3, 5, 8, 9, 31, 32, 33, 63, 64, 65, 100, 127, 128, 129, 255, 320, 399, 400)


class BitsOfTest(RailCase):
    def test_all_numbers_of_few_bits(self):
        for many in range(9):
            for number in range(2 ** many):
                expected = [int(sign) for sign in format(number, "b").zfill(many)] if many else []
                self.assert_bits(bits_of(number, many), expected)

    def test_the_highest_bit_is_the_first(self):
        self.assert_bits(bits_of(6, 3), [1, 1, 0])
        self.assert_bits(bits_of(1, 8), [0, 0, 0, 0, 0, 0, 0, 1])
        self.assert_bits(bits_of(128, 8), [1, 0, 0, 0, 0, 0, 0, 0])
        self.assert_bits(bits_of(2 ** 127, 128), [1] + [0] * 127)

    def test_the_least_and_the_greatest_number(self):
        for many in (0, 1, 8, 127, 128):
            self.assert_bits(bits_of(0, many), [0] * many)
            self.assert_bits(bits_of(2 ** many - 1, many), [1] * many)

    def test_numbers_beyond_are_refused(self):
        for many in (0, 1, 8, 64, 127, 128):
            for number in (2 ** many, 2 ** many + 1, 2 ** (many + 1), 3 * 2 ** many, 2 ** (many + 64), 10 ** 100 - 1):
                self.assert_refused("NoBits", bits_of, number, many)

    def test_numbers_below_nought_are_refused(self):
        for many in (0, 1, 8, 64, 127, 128):
            for number in (-1, -2, -255, -(2 ** many), -(10 ** 100 - 1)):
                self.assert_refused("NoBits", bits_of, number, many)

    def test_more_bits_than_the_bound_are_not_refused(self):
        self.assert_bits(bits_of(2 ** 128, 130), [0, 1] + [0] * 128)

    def test_the_told_list_is_the_askers_own(self):
        self.assert_own_list(bits_of, 5, 4)


class NumberOfTest(RailCase):
    def test_no_bits_are_nought(self):
        self.assert_number(number_of([]), 0)

    def test_few_bits(self):
        for many in range(1, 9):
            for bits in itertools.product([0, 1], repeat=many):
                self.assert_number(self.told(number_of, list(bits)), int("".join(map(str, bits)), 2))

    def test_up_to_four_hundred_bits(self):
        for many in LENGTHS[1:]:
            bits = some_bits(many, many)
            self.assert_number(self.told(number_of, bits), int("".join(map(str, bits)), 2))
            self.assert_number(number_of([1] * many), 2 ** many - 1)
            self.assert_number(number_of([0] * many), 0)
            self.assert_number(number_of([1] + [0] * (many - 1)), 2 ** (many - 1))

    def test_what_is_written_is_read_back(self):
        for number in some_numbers(7, 200, 128):
            self.assert_number(number_of(bits_of(number, 128)), number)
            self.assert_number(number_of(bits_of(number, number.bit_length())), number)


class DrawnTest(RailCase):
    def test_some_bits(self):
        self.assertEqual(drawn([]), "")
        self.assertEqual(drawn([0]), "0")
        self.assertEqual(drawn([1]), "1")
        self.assertEqual(drawn([1, 1, 0, 1, 0, 0]), "110100")

    def test_up_to_four_hundred_bits_and_back(self):
        for many in LENGTHS:
            bits = some_bits(many + 1, many)
            text = self.told(drawn, bits)
            self.assertIs(type(text), str)
            self.assertEqual(len(text), many)
            self.assertEqual([int(sign) for sign in text], bits)
            self.assert_bits(self.told(read_bits, text), bits)


class ReadBitsTest(RailCase):
    def test_some_texts(self):
        self.assert_bits(read_bits(""), [])
        self.assert_bits(read_bits("0"), [0])
        self.assert_bits(read_bits("1"), [1])
        self.assert_bits(read_bits("0010111"), [0, 0, 1, 0, 1, 1, 1])

    def test_each_strange_sign_is_refused(self):
        strange = [chr(code) for code in range(32, 127) if chr(code) not in "01"] + ["\n", "\t"]
        for sign in strange:
            for text in (sign, sign + "0110", "01" + sign + "10", "0110" + sign, sign + sign):
                self.assert_refused("NoBits", read_bits, text)

    def test_a_strange_sign_in_a_long_text_is_refused(self):
        for sign in " \t\n2-":
            for place in (0, 1, 200, 398, 399):
                text = "01" * 200
                self.assert_refused("NoBits", read_bits, text[:place] + sign + text[place + 1:])

    def test_numbers_written_otherwise_are_refused(self):
        for text in ("0b1", "+1", "-1", "1_0", "10 ", " 10", "1 0", "10\n", "1\n0", "1.0", "01,10"):
            self.assert_refused("NoBits", read_bits, text)

    def test_the_told_list_is_the_askers_own(self):
        self.assert_own_list(read_bits, "0110")


class ChangedTest(RailCase):
    def test_no_places(self):
        self.assert_bits(self.told(changed, [], []), [])
        self.assert_bits(self.told(changed, [0, 1, 1], []), [0, 1, 1])

    def test_one_place(self):
        self.assert_bits(self.told(changed, [0], [0]), [1])
        self.assert_bits(self.told(changed, [1], [0]), [0])
        self.assert_bits(self.told(changed, [0, 0, 0], [0]), [1, 0, 0])
        self.assert_bits(self.told(changed, [0, 0, 0], [1]), [0, 1, 0])
        self.assert_bits(self.told(changed, [1, 1, 1], [2]), [1, 1, 0])

    def test_some_places(self):
        self.assert_bits(self.told(changed, [0, 1, 0, 1], [3, 0]), [1, 1, 0, 0])
        self.assert_bits(self.told(changed, [0, 1, 0, 1], [0, 1, 2, 3]), [1, 0, 1, 0])

    def test_a_place_told_again_is_turned_again(self):
        self.assert_bits(self.told(changed, [0, 1], [1, 1]), [0, 1])
        self.assert_bits(self.told(changed, [0, 1], [1, 1, 1]), [0, 0])
        self.assert_bits(self.told(changed, [0, 1, 0], [2, 0, 2]), [1, 1, 0])
        self.assert_bits(self.told(changed, [0, 1, 0], [2, 0, 2, 1, 2]), [1, 0, 1])

    def test_up_to_four_hundred_bits(self):
        for many in LENGTHS[1:]:
            bits = some_bits(many + 2, many)
            places = [number % many for number in some_numbers(many, 30, 40)] + [0, many - 1]
            expected = [(bit + places.count(place)) % 2 for place, bit in enumerate(bits)]
            self.assert_bits(self.told(changed, bits, places), expected)

    def test_a_place_that_is_none_is_refused(self):
        bits = [0, 1, 0, 1]
        for place in (-1, -2, -4, -5, -(10 ** 99), 4, 5, 400, 10 ** 99):
            for places in ([place], [place, 0, 1], [0, place, 1], [0, 1, place], [place, place]):
                self.assert_refused("NoBits", changed, bits, places)

    def test_no_bits_have_no_place(self):
        for place in (-1, 0, 1):
            self.assert_refused("NoBits", changed, [], [place])

    def test_the_edges_of_four_hundred_bits(self):
        bits = [0] * 400
        self.assert_bits(changed(bits, [399]), [0] * 399 + [1])
        self.assert_refused("NoBits", changed, bits, [400])
        self.assert_refused("NoBits", changed, bits, [-400])

    def test_one_list_as_both(self):
        both = [0, 1]
        self.assert_bits(changed(both, both), [1, 0])
        self.assertEqual(both, [0, 1])

    def test_the_told_list_is_the_askers_own(self):
        self.assert_own_list(changed, [0, 1, 1], [1])
        self.assert_own_list(changed, [0, 1, 1], [])
        self.assert_own_list(changed, [0, 1, 1], [2, 2])


class LongestRunTest(RailCase):
    def test_no_bits_and_one(self):
        self.assert_number(longest_run([]), 0)
        self.assert_number(longest_run([0]), 1)
        self.assert_number(longest_run([1]), 1)

    def test_alike_bits(self):
        for many in LENGTHS:
            for bit in (0, 1):
                self.assert_number(self.told(longest_run, [bit] * many), many)

    def test_runs_at_the_beginning_amid_and_at_the_end(self):
        for bit in (0, 1):
            other = 1 - bit
            self.assert_number(longest_run([bit, bit, bit, other, bit, other]), 3)
            self.assert_number(longest_run([bit, other, other, other, bit, other]), 3)
            self.assert_number(longest_run([bit, other, bit, other, other, other]), 3)
            self.assert_number(longest_run([bit, other] * 5), 1)
            self.assert_number(longest_run([bit, bit, other, other, bit, bit]), 2)

    def test_against_a_plain_count(self):
        for many in range(1, 11):
            for bits in itertools.product([0, 1], repeat=many):
                expected = max(len(list(run)) for _, run in itertools.groupby(bits))
                self.assert_number(self.told(longest_run, list(bits)), expected)


if __name__ == "__main__":
    unittest.main()
