"""bitrail.strips: point 34, and over it point 2."""

import unittest

from bitrail.strips import read_strips, strips
from tests.helper import RailCase, some_bits

LENGTHS = (0, 1, 2, 39, 40, 41, 79, 80, 81, 1999, 2000)
FIRSTS = (0, 1, 7, 40, 999, 12345, 19999, 20000)


def plain_strips(bits, first):
    """By one long text."""
    text = "".join("_-"[bit] for bit in bits)
    told = []
    while text:
        told.append(f"{first:06d} {text[:40]}")
        text = text[40:]
        first += 40
    return told


class StripsTest(RailCase):
    def test_some(self):
        self.assertEqual(strips([], 0), [])
        self.assertEqual(strips([], 20000), [])
        self.assertEqual(strips([0], 0), ["000000 _"])
        self.assertEqual(strips([1, 0, 1], 20000), ["020000 -_-"])
        self.assertEqual(strips([1] * 41, 7), ["000007 " + "-" * 40, "000047 -"])
        self.assertEqual(strips([0] * 80, 0), ["000000 " + "_" * 40, "000040 " + "_" * 40])

    def test_many_lengths_and_turns(self):
        for many in LENGTHS:
            for first in FIRSTS:
                bits = some_bits(many + first, many)
                told = self.told(strips, bits, first)
                self.assertIs(type(told), list)
                self.assertEqual(told, plain_strips(bits, first))

    def test_told_lists_are_the_askers_own(self):
        self.assert_own_list(strips, [1, 0], 5)


class ReadStripsTest(RailCase):
    def assert_no_strips(self, some):
        self.assert_refused("NoStrip", read_strips, some)

    def test_no_strips(self):
        told = read_strips([])
        self.assertIs(type(told), tuple)
        self.assertEqual(told, (0, []))
        told[1].append(7)
        self.assertEqual(read_strips([]), (0, []))

    def test_read_back(self):
        for many in LENGTHS[1:]:
            for first in FIRSTS:
                bits = some_bits(many + first, many)
                told = self.told(read_strips, strips(bits, first))
                self.assertIs(type(told), tuple)
                self.assert_number(told[0], first)
                self.assert_bits(told[1], bits)

    def test_whatever_six_figures_the_first_one_has(self):
        for first in (0, 20001, 123456, 999959, 999960, 999999):
            self.assertEqual(read_strips([f"{first:06d} _-"]), (first, [0, 1]))
        self.assertEqual(read_strips(["999959 " + "_" * 40, "999999 -"]), (999959, [0] * 40 + [1]))

    def test_turns_beyond_six_figures_do_not_go_on(self):
        for strip in ("1000000 -", "000000 -", "100000 -", "999999 -", "1000039 -", "000039 -"):
            self.assert_no_strips(["999960 " + "_" * 40, strip])
            self.assert_no_strips(["999999 " + "_" * 40, strip])

    def test_strips_of_another_length(self):
        for many in (0, 1, 39, 41, 80):
            self.assert_no_strips(["000000 " + "_" * many, "000040 _"])
            self.assert_no_strips(["000000 " + "_" * 40, "000040 " + "-" * many, "000080 _"])
        for many in (0, 41, 42, 100):
            self.assert_no_strips(["000000 " + "_" * many])
            self.assert_no_strips(["000000 " + "_" * 40, "000040 " + "-" * many])

    def test_another_sign(self):
        for sign in "01 =.~xX\n\t/+":
            for signs in (sign, sign + "_", "_" + sign, "-_" + sign + "_-"):
                self.assert_no_strips(["000000 " + signs])
            self.assert_no_strips(["000000 " + "_" * 39 + sign, "000040 _"])
            self.assert_no_strips(["000000 " + "_" * 40, "000040 -" + sign])

    def test_turns_that_do_not_go_on(self):
        for turn in ("000000", "000039", "000041", "000080", "000004", "400000"):
            self.assert_no_strips(["000000 " + "_" * 40, turn + " _"])
        self.assert_no_strips(["000000 " + "_" * 40, "000040 " + "_" * 40, "000120 _"])
        self.assert_no_strips(["000000 " + "_" * 40, "000040 " + "_" * 40, "000040 _"])
        self.assert_no_strips(["000007 " + "_" * 40, "000040 _"])

    def test_another_number_of_figures(self):
        for figures in ("", "0", "00000", "0000000", "12345", "1234567"):
            self.assert_no_strips([figures + " _"])
            self.assert_no_strips([figures + " ______-"])
        for figures in ("40", "00040", "0000040"):
            self.assert_no_strips(["000000 " + "_" * 40, figures + " _"])

    def test_what_is_no_figure(self):
        for figures in ("00000x", "-00001", "+00001", "00 001", " 00001", "00001 ", "00_001", "0x0001", "00001\n"):
            self.assert_no_strips([figures + " _"])

    def test_without_the_blank(self):
        for strip in ("", "000000", "000000_", "000000_-", "000000  _", "000000\t_", "000000-_", " ", "_", "000000 "):
            self.assert_no_strips([strip])
            self.assert_no_strips(["000000 " + "_" * 40, strip])

    def test_one_bad_strip_among_good_ones(self):
        good = strips(some_bits(3, 200), 100)
        for place in range(len(good)):
            for bad in ("", good[place] + "_", good[place][1:], good[place].replace("_", "x", 1)):
                self.assert_no_strips(good[:place] + [bad] + good[place + 1:])
            if place < len(good) - 1:
                self.assert_no_strips(good[:place] + [good[place][:-1]] + good[place + 1:])
                self.assert_no_strips(good[:place] + [good[place + 1], good[place]] + good[place + 2:])
            self.assert_no_strips(good[:place] + [good[place]] + good[place:])
        for place in range(1, len(good) - 1):
            self.assert_no_strips(good[:place] + good[place + 1:])

    def test_fifty_strips(self):
        bits = some_bits(5, 2000)
        some = strips(bits, 20000)
        self.assertEqual(len(some), 50)
        self.assertEqual(read_strips(some), (20000, bits))

    def test_told_bits_are_the_askers_own(self):
        some = ["000000 _-"]
        first = self.told(read_strips, some)
        first[1].append(7)
        self.assertEqual(self.told(read_strips, some), (0, [0, 1]))


if __name__ == "__main__":
    unittest.main()
