"""bitrail.frames: point 18, and over it point 2."""

import unittest

from bitrail.bits import changed, longest_run
from bitrail.checks import check_of, rest_of
from bitrail.errors import NoFrame, NoWire, RailError
from bitrail.frames import frame_bits, read_frame, read_wire, wire_of
from bitrail.putting import put_in, taken_out
from tests.helper import FAR, FRAMES, RailCase, some_bits, some_numbers


def plain_bits(name, data):
    """A frame's bits without its check, by texts."""
    return [int(sign) for sign in "0" + "".join([format(name, "08b"), format(len(data), "03b")]
                                                + [format(byte, "08b") for byte in data])]


class FrameBitsTest(RailCase):
    def assert_frame_bits(self, name, data):
        ahead = plain_bits(name, data)
        bits = self.told(frame_bits, name, data)
        self.assert_bits(bits, ahead + check_of(ahead))
        self.assertEqual(len(bits), 27 + 8 * len(data))
        self.assertEqual(rest_of(bits), 0)

    def test_the_least_frame(self):
        self.assert_bits(frame_bits(0, []), [0] * 27)

    def test_a_frame_bit_by_bit(self):
        ahead = [0] + [1, 0, 0, 0, 0, 0, 1, 1] + [0, 1, 0] + [0, 0, 0, 0, 0, 1, 0, 1] + [1, 1, 1, 1, 1, 1, 1, 0]
        self.assert_bits(frame_bits(131, [5, 254]), ahead + check_of(ahead))

    def test_many_frames(self):
        for frame in FRAMES:
            self.assert_frame_bits(frame[0], frame[1])

    def test_all_names_and_all_bytes(self):
        for number in range(256):
            self.assert_frame_bits(number, [])
            self.assert_frame_bits(9, [number])
            self.assert_frame_bits(number, [1, 2, 3, 4, 5, 6, number])

    def test_names_that_are_none(self):
        for name in FAR:
            for data in ([], [0], [1] * 7):
                self.assert_refused("NoFrame", frame_bits, name, data)
                self.assert_refused("NoFrame", wire_of, name, data)

    def test_more_bytes_than_seven(self):
        for many in (8, 9, 15, 16, 100):
            for name in (0, 255):
                self.assert_refused("NoFrame", frame_bits, name, [0] * many)
                self.assert_refused("NoFrame", wire_of, name, [0] * many)

    def test_bytes_that_are_none(self):
        for byte in FAR:
            for data in ([byte], [byte, 0, 255], [0, byte, 1], [0, 1, 2, 3, 4, 5, byte]):
                self.assert_refused("NoFrame", frame_bits, 7, data)
                self.assert_refused("NoFrame", wire_of, 7, data)

    def test_told_lists_are_the_askers_own(self):
        self.assert_own_list(frame_bits, 7, [1, 2])
        self.assert_own_list(wire_of, 7, [1, 2])


class ReadFrameTest(RailCase):
    def assert_frame(self, told, name, data):
        self.assertIs(type(told), tuple)
        self.assertEqual(told, (name, data))
        self.assertIs(type(told[0]), int)
        self.assert_bits(told[1], data)

    def test_frames_are_read_back(self):
        for name, data in FRAMES:
            self.assert_frame(self.told(read_frame, frame_bits(name, data)), name, data)
        for number in range(256):
            self.assert_frame(read_frame(frame_bits(number, [])), number, [])
            self.assert_frame(read_frame(frame_bits(3, [number, 255 - number])), 3, [number, 255 - number])

    def test_too_few_and_too_many_bits(self):
        for name, data in FRAMES:
            bits = frame_bits(name, data)
            for many in range(len(bits)):
                self.assert_refused("NoFrame", read_frame, bits[:many])
            for more in ([0], [1], [0] * 8, [1] * 8, [0] * 16, [0] * 100):
                self.assert_refused("NoFrame", read_frame, bits + more)

    def test_bits_with_their_check_of_another_length(self):
        # The rest is 0 in all of these, so that nothing but the length, or the size told, can refuse them.
        for many in range(0, 130):
            ahead = [0] * 9 + [0, 1, 0] + [1] * 200
            bits = ahead[:many] + check_of(ahead[:many])
            if many == 28:
                self.assert_frame(read_frame(bits), 0, [255, 255])
            else:
                self.assert_refused("NoFrame", read_frame, bits)
        for many in range(0, 27):
            self.assert_refused("NoFrame", read_frame, [0] * many)
        for many in range(28, 120):
            self.assert_refused("NoFrame", read_frame, [0] * many)

    def test_a_one_as_the_first(self):
        for name, data in FRAMES:
            ahead = [1] + plain_bits(name, data)[1:]
            self.assertEqual(rest_of(ahead + check_of(ahead)), 0)
            self.assert_refused("NoFrame", read_frame, ahead + check_of(ahead))

    def test_another_check(self):
        for name, data in FRAMES[:12]:
            bits = frame_bits(name, data)
            for place in range(len(bits)):
                self.assert_refused("NoFrame", read_frame, changed(bits, [place]))
            for number in some_numbers(name, 40, 30):
                other = [bit ^ int(sign) for bit, sign in zip(bits[-15:], format(1 + number % (2 ** 15 - 1), "015b"))]
                self.assert_refused("NoFrame", read_frame, bits[:-15] + other)

    def test_told_data_is_the_askers_own(self):
        bits = frame_bits(4, [1, 2])
        first = read_frame(bits)
        first[1].append(7)
        self.assertEqual(read_frame(bits), (4, [1, 2]))
        second = read_frame(bits)
        bits.clear()
        self.assertEqual(second, (4, [1, 2]))


class WireTest(RailCase):
    def assert_wire_refused(self, wire):
        before = list(wire)
        with self.assertRaises((NoWire, NoFrame)):
            read_wire(wire)
        self.assertEqual(wire, before)

    def test_the_wire_is_the_bits_put_on_it(self):
        for name, data in FRAMES:
            wire = self.told(wire_of, name, data)
            self.assert_bits(wire, put_in(frame_bits(name, data)))
            self.assertLess(longest_run(wire), 6)

    def test_the_least_wire(self):
        self.assert_bits(wire_of(0, []), [0, 0, 0, 0, 0, 1] * 5 + [0, 0])

    def test_wires_are_read_back(self):
        for name, data in FRAMES:
            self.assertEqual(self.told(read_wire, wire_of(name, data)), (name, data))
        for number in range(256):
            self.assertEqual(read_wire(wire_of(number, [])), (number, []))
            self.assertEqual(read_wire(wire_of(7, [number] * 7)), (7, [number] * 7))

    def test_a_sixth_alike_bit_is_refused_first(self):
        wire = wire_of(131, [5, 6])
        for place in (0, 8, 20):
            with self.assertRaises(NoWire) as caught:
                read_wire(wire[:place] + [1 - wire[place]] * 6 + wire[place:])
            self.assert_alone(caught.exception, "NoWire")
            self.assertLessEqual(caught.exception.at, place + 5)
        with self.assertRaises(NoWire) as caught:
            read_wire([1] * 6)
        self.assertEqual(caught.exception.at, 5)

    def test_five_alike_bits_at_the_end(self):
        for wire in ([0] * 5, [0, 1, 1, 1, 1, 1], wire_of(0, []) + [0, 0, 0]):
            with self.assertRaises(NoWire) as caught:
                read_wire(wire)
            self.assertEqual(caught.exception.at, len(wire))

    def test_wires_of_no_frame(self):
        for wire in ([], [0], [1], [0, 1] * 60, wire_of(0, []) + [1], wire_of(5, [6])[:-1] + []):
            if longest_run(wire[-5:]) < 5:
                self.assert_refused("NoFrame", read_wire, wire)

    def test_a_wire_that_lacks_the_bit_put_in_last(self):
        ended = [wire for wire in (wire_of(name, []) for name in range(256)) if longest_run(wire[-6:-1]) == 5]
        self.assertGreater(len(ended), 0)
        for wire in ended:
            with self.assertRaises(NoWire) as caught:
                read_wire(wire[:-1])
            self.assertEqual(caught.exception.at, len(wire) - 1)

    def test_each_single_changed_bit_is_refused(self):
        for name, data in FRAMES + [(name, []) for name in range(256)]:
            wire = wire_of(name, data)
            for place in range(len(wire)):
                self.assert_wire_refused(changed(wire, [place]))

    def test_refused_just_as_the_bits_are(self):
        for seed in range(300):
            wire = some_bits(seed, 20 + seed % 60)
            try:
                bits = taken_out(wire)
            except NoWire as error:
                with self.assertRaises(NoWire) as caught:
                    read_wire(wire)
                self.assertEqual(caught.exception.at, error.at)
                continue
            with self.assertRaises(RailError) as caught:
                read_frame(bits)
            self.assert_refused("NoFrame", read_wire, wire)


if __name__ == "__main__":
    unittest.main()
