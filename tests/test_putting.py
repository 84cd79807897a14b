"""bitrail.putting: points 16 and 17, and over them point 2."""

import itertools
import re
import unittest

from bitrail.errors import NoWire
from bitrail.putting import put_in, taken_out
from tests.helper import RailCase, some_bits, some_numbers

SIX = re.compile("000000|111111")


def bits_in(text):
    return [int(sign) for sign in text]


def text_of(bits):
    return "".join(str(bit) for bit in bits)


def plain_put_in(text):
    """The wire sign by sign: wherever the text so far ends with five alike ones the other is put in."""
    wire = ""
    for sign in text:
        wire += sign
        if wire.endswith("0" * 5):
            wire += "1"
        elif wire.endswith("1" * 5):
            wire += "0"
    return wire


def runs_of_alike(seed, many):
    """Bits with many long runs, as plain chance seldom has them."""
    bits = []
    for number in some_numbers(seed, many, 20):
        bits += [number % 2] * (1 + number // 2 % 13)
    return bits[:many]


def long_rows(many):
    rows = [[0] * many, [1] * many, some_bits(many, many), runs_of_alike(many + 1, many), runs_of_alike(many + 2, many)]
    return [row for row in rows if len(row) == many]


class PutInTest(RailCase):
    def assert_put_in(self, text, wire):
        self.assert_bits(self.told(put_in, bits_in(text)), bits_in(wire))

    def test_no_bits(self):
        self.assert_put_in("", "")

    def test_five_alike_ones_and_more(self):
        self.assert_put_in("1111", "1111")
        self.assert_put_in("11111", "111110")
        self.assert_put_in("111111", "1111101")
        self.assert_put_in("1" * 10, "111110111110")
        self.assert_put_in("1" * 11, "1111101111101")
        self.assert_put_in("0000", "0000")
        self.assert_put_in("00000", "000001")
        self.assert_put_in("000000", "0000010")
        self.assert_put_in("0" * 10, "000001000001")
        self.assert_put_in("0" * 11, "0000010000010")

    def test_amid_others_and_at_the_end(self):
        self.assert_put_in("0111110", "01111100")
        self.assert_put_in("1000001", "10000011")
        self.assert_put_in("011111", "0111110")
        self.assert_put_in("100000", "1000001")

    def test_a_bit_put_in_counts_for_what_follows(self):
        self.assert_put_in("111110000", "11111000001")
        self.assert_put_in("000001111", "00000111110")
        self.assert_put_in("1111100001111", "111110000011111" + "0")
        self.assert_put_in("11111000", "111110000")
        self.assert_put_in("1111100001", "111110000011")

    def test_all_short_bits(self):
        for many in range(13):
            for signs in itertools.product("01", repeat=many):
                text = "".join(signs)
                wire = text_of(put_in(bits_in(text)))
                self.assertEqual(wire, plain_put_in(text))
                self.assertIsNone(SIX.search(wire))

    def test_long_bits(self):
        for many in (13, 60, 83, 159, 319, 320, 330):
            for bits in long_rows(many):
                wire = self.told(put_in, bits)
                self.assertEqual(text_of(wire), plain_put_in(text_of(bits)))
                self.assertIsNone(SIX.search(text_of(wire)))

    def test_a_told_wire_is_the_askers_own(self):
        self.assert_own_list(put_in, [1, 0])
        self.assert_own_list(put_in, [1] * 7)


class TakenOutTest(RailCase):
    def assert_no_wire(self, text, at):
        wire = bits_in(text)
        with self.assertRaises(NoWire) as caught:
            self.told(taken_out, wire)
        self.assert_alone(caught.exception, "NoWire")
        self.assert_number(caught.exception.at, at)
        self.assertEqual(wire, bits_in(text))

    def test_no_wire_bits(self):
        self.assert_bits(taken_out([]), [])

    def test_some(self):
        self.assert_bits(taken_out(bits_in("111110")), [1] * 5)
        self.assert_bits(taken_out(bits_in("11111000001")), bits_in("111110000"))
        self.assert_bits(taken_out(bits_in("1111")), [1] * 4)

    def test_a_sixth_alike_bit(self):
        for one, other in (("0", "1"), ("1", "0")):
            self.assert_no_wire(one * 6, 5)
            self.assert_no_wire(one * 7, 5)
            self.assert_no_wire(one * 6 + other * 6, 5)
            self.assert_no_wire(one * 6 + other * 5, 5)
            self.assert_no_wire(other + one * 6 + other, 6)
            self.assert_no_wire(other + one * 6, 6)
            self.assert_no_wire(other * 3 + one * 9 + other, 8)
            self.assert_no_wire(one * 5 + other * 6, 10)
            self.assert_no_wire((one + other) * 190 + other * 5 + one, 384)

    def test_five_alike_bits_at_the_end(self):
        for one, other in (("0", "1"), ("1", "0")):
            self.assert_no_wire(one * 5, 5)
            self.assert_no_wire(other + one * 5, 6)
            self.assert_no_wire(one * 5 + other * 5, 10)
            self.assert_no_wire(one + other * 4 + one * 5, 10)
            self.assert_no_wire((one + other) * 197 + one * 5, 399)
            self.assert_no_wire((one + other) * 197 + other + one * 5, 400)

    def test_all_short_wires(self):
        wires = {}
        for many in range(12):
            for signs in itertools.product("01", repeat=many):
                wires[plain_put_in("".join(signs))] = "".join(signs)
        for many in range(12):
            for signs in itertools.product("01", repeat=many):
                text = "".join(signs)
                found = SIX.search(text)
                if found:
                    self.assert_no_wire(text, found.start() + 5)
                elif text in wires:
                    self.assert_bits(taken_out(bits_in(text)), bits_in(wires[text]))
                else:
                    self.assert_no_wire(text, len(text))

    def test_what_was_put_on_a_wire_is_read_back(self):
        for many in (0, 1, 4, 5, 6, 40, 83, 200, 319, 320, 330):
            for bits in long_rows(many):
                wire = put_in(bits)
                self.assert_bits(self.told(taken_out, wire), bits)
                self.assertEqual(put_in(taken_out(wire)), wire)

    def test_wires_of_up_to_400_bits(self):
        for text in ("10" * 200, "0000011111" * 40 + "0", "0011" * 100, "111110" * 66 + "1111", "1" + "000001" * 66):
            bits = taken_out(bits_in(text))
            self.assertEqual(plain_put_in(text_of(bits)), text)

    def test_told_bits_are_the_askers_own(self):
        self.assert_own_list(taken_out, [1, 0])
        self.assert_own_list(taken_out, bits_in("1111101"))


if __name__ == "__main__":
    unittest.main()
