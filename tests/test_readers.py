"""bitrail.readers: point 19, from the reader on, and over it point 2."""

import unittest

from bitrail.bits import changed
from bitrail.frames import frame_bits, wire_of
from bitrail.putting import put_in, taken_out
from bitrail.readers import Reader
from tests.helper import RailCase, some_numbers

FRAMES = [(0, []), (255, []), (131, [5, 254]), (0, [0] * 7), (255, [255] * 7), (31, [248, 31, 248])] + [
    (number % 256, [one % 256 for one in some_numbers(number % 991, many, 30)])
    for many in range(8)
    for number in some_numbers(many, 6, 40)
]


def ends_with_a_bit_put_in(name, data):
    return len(put_in(frame_bits(name, data)[:-1])) + 2 == len(wire_of(name, data))


class ReaderTest(RailCase):
    def words_of(self, reader, bits):
        return [reader.hear(bit) for bit in bits]

    def assert_read(self, bits, last):
        """The put-on bits are told one by one: more till the last one, and then that word."""
        reader = Reader()
        wire = put_in(bits)
        self.assertEqual(self.words_of(reader, wire), ["more"] * (len(wire) - 1) + [last])
        self.assertEqual(reader.plain(), bits)
        return reader

    def test_a_new_reader(self):
        reader = Reader()
        self.assertEqual(reader.plain(), [])
        self.assertIsNone(reader.frame())

    def test_frames_of_nought_to_seven_bytes(self):
        for name, data in FRAMES:
            reader = self.assert_read(frame_bits(name, data), "whole")
            told = reader.frame()
            self.assertIs(type(told), tuple)
            self.assertEqual(told, (name, data))
            self.assertIs(type(told[1]), list)

    def test_all_names(self):
        for name in range(256):
            self.assertEqual(self.assert_read(frame_bits(name, []), "whole").frame(), (name, []))

    def test_a_changed_bit_of_the_check(self):
        for name, data in FRAMES:
            bits = frame_bits(name, data)
            for place in range(len(bits) - 15, len(bits)):
                reader = self.assert_read(changed(bits, [place]), "bad")
                self.assertIsNone(reader.frame())

    def test_a_changed_bit_of_the_name_or_of_a_byte(self):
        for name, data in FRAMES:
            bits = frame_bits(name, data)
            for place in list(range(1, 9)) + list(range(12, len(bits) - 15)):
                self.assertIsNone(self.assert_read(changed(bits, [place]), "bad").frame())

    def test_the_size_told_decides_how_many_bits_there_are(self):
        for size in range(8):
            bits = [0, 1] * 4 + [0] + [int(sign) for sign in format(size, "03b")] + [0, 1] * 60
            self.assert_read(bits[:27 + 8 * size], "bad")

    def test_a_sixth_alike_bit(self):
        for name, data in FRAMES:
            wire = wire_of(name, data)
            for place in range(5, len(wire)):
                if len(set(wire[place - 5:place])) == 1:
                    reader = Reader()
                    self.assertEqual(self.words_of(reader, wire[:place]), ["more"] * place)
                    self.assertEqual(reader.hear(wire[place - 1]), "six")

    def test_six_alike_bits_at_the_start(self):
        self.assertEqual(self.words_of(Reader(), [0] * 6), ["more"] * 5 + ["six"])
        self.assertEqual(self.words_of(Reader(), [0] + [1] * 6), ["more"] * 6 + ["six"])

    def test_a_bit_put_in_counts_for_the_next_row(self):
        self.assertEqual(self.words_of(Reader(), [0] * 5 + [1] * 6), ["more"] * 10 + ["six"])
        self.assertEqual(self.words_of(Reader(), [0] + [1] * 5 + [0] * 6), ["more"] * 11 + ["six"])

    def test_six_is_answered_where_the_frame_would_end(self):
        found = [frame for frame in [(name, []) for name in range(256)] if ends_with_a_bit_put_in(*frame)]
        self.assertGreater(len(found), 3)
        self.assertEqual({wire_of(*frame)[-1] for frame in found}, {0, 1})
        for name, data in found:
            wire = wire_of(name, data)
            reader = Reader()
            self.assertEqual(self.words_of(reader, wire[:-1]), ["more"] * (len(wire) - 1))
            self.assertEqual(reader.plain(), frame_bits(name, data))
            self.assertIsNone(reader.frame())
            self.assertEqual(reader.hear(wire[-1]), "whole")
            self.assertEqual(reader.plain(), frame_bits(name, data))
            self.assertEqual(reader.frame(), (name, data))
            reader = Reader()
            self.words_of(reader, wire[:-1])
            self.assertEqual(reader.hear(wire[-2]), "six")

    def test_a_bad_frame_that_ends_with_a_bit_put_in(self):
        bits = frame_bits(9, [])[:-5] + [1] * 5
        self.assertNotEqual(bits, frame_bits(9, []))
        self.assertEqual(len(put_in(bits)), len(put_in(bits[:-1])) + 2)
        self.assert_read(bits, "bad")

    def test_plain_and_frame_amid(self):
        for name, data in FRAMES:
            wire = wire_of(name, data)
            reader = Reader()
            plain = []
            alike = 0
            for place, bit in enumerate(wire):
                if alike < 5:
                    plain.append(bit)
                alike = alike + 1 if place and wire[place - 1] == bit else 1
                self.assertIsNone(reader.frame())
                reader.hear(bit)
                self.assert_bits(reader.plain(), plain)
            self.assertEqual(plain, taken_out(wire))

    def test_told_lists_are_the_askers_own(self):
        reader = Reader()
        self.words_of(reader, wire_of(4, [1, 2]))
        reader.plain().append(7)
        first = reader.plain()
        first[0] = 9
        self.assertEqual(reader.plain(), frame_bits(4, [1, 2]))
        told = reader.frame()
        told[1].append(7)
        told[1][0] = 9
        self.assertEqual(reader.frame(), (4, [1, 2]))
        reader = Reader()
        reader.hear(0)
        early = reader.plain()
        reader.hear(1)
        self.assertEqual(early, [0])
        early.append(5)
        self.assertEqual(reader.hear(1), "more")
        self.assertEqual(reader.plain(), [0, 1, 1])


if __name__ == "__main__":
    unittest.main()
