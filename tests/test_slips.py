"""bitrail.slips: point 30, and over it point 2."""

import itertools
import unittest

from bitrail.bits import changed
from bitrail.errors import RailError
from bitrail.frames import read_wire, wire_of
from bitrail.slips import slips
from tests.helper import FAR, FRAMES, RailCase, some_numbers


def plain_slips(name, data, places, most):
    wire = wire_of(name, data)
    told = []
    for size in range(most + 1):
        for row in itertools.combinations(places, size):
            try:
                found = read_wire(changed(wire, list(row)))
            except RailError:
                continue
            if found != (name, data):
                told.append((list(row), found))
    return told


# Frames whose wires, changed at these places, are read as others; found by going through the rows of many frames.
SLIPPING = [
    ((169, [219]), [8, 27], (168, [182])),
    ((252, [39, 146, 14]), [24, 43], (252, [39, 128, 28])),
    ((7, [0, 255, 7]), [13, 49], (7, [132, 127, 131])),
    ((192, [63, 248, 7]), [15, 54], (192, [30, 252, 3])),
    ((63, [128, 1, 3, 7]), [18, 60], (63, [134, 0, 129, 131])),
    ((15, [248] * 4), [35, 56], (15, [248, 248, 232, 124])),
    ((128, [209]), [19, 29, 36], (128, [211])),
    ((96, [6]), [14, 24, 31], (96, [71])),
]
TWICE = (109, [171, 141, 80])


class SlipsTest(RailCase):
    def assert_slips(self, name, data, places, most):
        told = self.told(slips, name, data, places, most)
        self.assertIs(type(told), list)
        self.assertEqual(told, plain_slips(name, data, places, most))
        for pair in told:
            self.assertIs(type(pair), tuple)
            self.assertIs(type(pair[0]), list)
            self.assertIs(type(pair[1]), tuple)
        return told

    def test_no_places_and_none_of_one(self):
        for name, data in FRAMES[:20]:
            self.assertEqual(slips(name, data, [], 3), [])
            wire = wire_of(name, data)
            for start in range(0, len(wire), 12):
                places = list(range(len(wire)))[start:start + 12]
                self.assertEqual(slips(name, data, places, 0), [])
                self.assertEqual(slips(name, data, places, 1), [])

    def test_rows_by_which_a_frame_slips(self):
        for (name, data), row, found in SLIPPING:
            for order in itertools.permutations(row):
                order = list(order)
                for most in range(4):
                    expected = [(order, found)] if most >= len(row) else []
                    self.assertEqual(self.assert_slips(name, data, order, most), expected)
            places = [place for place in range(9) if place not in row] + row
            self.assertEqual(self.assert_slips(name, data, places, len(row)), [(row, found)])

    def test_their_order(self):
        one = (111, [175, 154, 161])
        other = (109, [247, 10, 161])
        name, data = TWICE
        self.assertEqual(
            self.assert_slips(name, data, [7, 13, 17, 24, 36], 3), [([7, 17, 36], one), ([13, 24, 36], other)]
        )
        self.assertEqual(
            self.assert_slips(name, data, [13, 36, 7, 24, 17], 3), [([13, 36, 24], other), ([36, 7, 17], one)]
        )
        self.assertEqual(self.assert_slips(name, data, [7, 13, 17, 24, 36], 2), [])

    def test_some_places(self):
        for seed in range(30):
            name, data = FRAMES[seed]
            many = len(wire_of(name, data))
            places = list(dict.fromkeys(number % many for number in some_numbers(seed, 40, 30)))[:12]
            self.assert_slips(name, data, places, 3)

    def test_what_is_no_frame(self):
        for name in FAR:
            for places in ([], [0], [-1], [5000]):
                for most in range(4):
                    self.assert_refused("NoFrame", slips, name, [], places, most)
                    self.assert_refused("NoFrame", slips, 3, [1, name], places, most)
        self.assert_refused("NoFrame", slips, 3, [0] * 8, [-1], 2)

    def test_a_place_that_is_none_of_the_wire(self):
        for name, data in FRAMES[:8]:
            many = len(wire_of(name, data))
            for place in (-1, -many, many, many + 1, 10 ** 99, -(10 ** 99)):
                for places in ([place], [0, place], [place, 1], [0, 1, 2, place, 3]):
                    for most in range(4):
                        self.assert_refused("NoBits", slips, name, data, places, most)
            self.assert_slips(name, data, [0, many - 1], 3)

    def test_told_lists_are_the_askers_own(self):
        (name, data), row, found = SLIPPING[0]
        data = list(data)
        row = list(row)
        expected = [(list(row), found)]
        told = self.told(slips, name, data, row, 2)
        told[0][0].append(7)
        told[0][1][1].append(9)
        self.assertEqual(self.told(slips, name, data, row, 2), expected)
        told = slips(name, data, row, 2)
        data.clear()
        row.clear()
        self.assertEqual(told, expected)


if __name__ == "__main__":
    unittest.main()
