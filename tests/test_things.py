"""bitrail.things: point 31, and over it point 2."""

import unittest

from bitrail.frames import frame_bits
from bitrail.things import cut
from tests.helper import FAR, RailCase, some_thing


class CutTest(RailCase):
    def assert_cut(self, tag, thing):
        told = self.told(cut, tag, thing)
        self.assertIs(type(told), list)
        many = (len(thing) + 4) // 5 or 1
        self.assertEqual(len(told), many)
        for number, piece in enumerate(told):
            self.assert_bits(piece, [tag, 16 * many + number] + thing[5 * number:5 * number + 5])
        self.assertEqual([byte for piece in told for byte in piece[2:]], thing)

    def test_some(self):
        self.assertEqual(cut(9, []), [[9, 16]])
        self.assertEqual(cut(9, [1]), [[9, 16, 1]])
        self.assertEqual(cut(9, [1, 2, 3, 4, 5]), [[9, 16, 1, 2, 3, 4, 5]])
        self.assertEqual(cut(9, [1, 2, 3, 4, 5, 6]), [[9, 32, 1, 2, 3, 4, 5], [9, 33, 6]])
        self.assertEqual(cut(0, [0] * 71)[14], [0, 254, 0])
        self.assertEqual(cut(255, [255] * 70)[13], [255, 237] + [255] * 5)

    def test_things_of_all_lengths(self):
        for many in range(76):
            for tag in (0, 1, 200, 255):
                self.assert_cut(tag, some_thing(many + tag, many))
                self.assert_cut(tag, [255] * many)

    def test_all_tags(self):
        for tag in range(256):
            self.assert_cut(tag, [tag] * 7)

    def test_each_piece_is_data_of_a_frame(self):
        for many in (0, 1, 5, 6, 70, 71, 74, 75):
            for piece in cut(255, [255] * many):
                frame_bits(0, piece)

    def test_a_tag_that_is_no_byte(self):
        for tag in FAR:
            for thing in ([], [1], [0] * 75):
                self.assert_refused("NoThing", cut, tag, thing)

    def test_more_bytes_than_75(self):
        for many in (76, 77, 80, 100, 1000):
            self.assert_refused("NoThing", cut, 9, [0] * many)

    def test_a_byte_that_is_none(self):
        for byte in FAR:
            for thing in ([byte], [0, byte, 255], [1] * 74 + [byte], [byte] + [1] * 74):
                self.assert_refused("NoThing", cut, 9, thing)

    def test_told_lists_are_the_askers_own(self):
        thing = [1, 2, 3, 4, 5, 6]
        expected = cut(9, list(thing))
        told = self.told(cut, 9, thing)
        for piece in told:
            piece.append(7)
            piece[0] = 0
        self.assertEqual(self.told(cut, 9, thing), expected)
        told = cut(9, thing)
        thing.clear()
        told[0].clear()
        self.assertEqual(told[1], expected[1])


if __name__ == "__main__":
    unittest.main()
