"""bitrail.joiners: points 32 and 33, and over them point 2."""

import itertools
import unittest

from bitrail.joiners import Joiner
from bitrail.things import cut
from tests.helper import RailCase, some_numbers, some_thing

TWO = cut(9, [1, 2, 3, 4, 5, 6])
THREE = cut(8, list(range(12)))


class History:
    """A joiner that keeps all that came and all that was told, and looks back at it."""

    def __init__(self):
        self.log = []
        self.row = []

    def broken(self, tag):
        self.log.append(("broken", tag))
        return ("broken", tag)

    def end(self):
        told = [self.broken(self.row[0][0])] if self.row else []
        self.row = []
        return told

    def take(self, piece):
        many, number = divmod(piece[1], 16)
        if number == 0:
            told = self.end()
            self.log.append("first")
            self.row = [piece]
        elif self.row and piece[0] == self.row[0][0] and piece[1] == self.row[-1][1] + 1:
            told = []
            self.row.append(piece)
        else:
            told = self.end()
            if self.log[-1:] != [("broken", piece[0])]:
                told.append(self.broken(piece[0]))
            return told
        if len(self.row) == many:
            told.append(("whole", piece[0], [byte for one in self.row for byte in one[2:]]))
            self.row = []
        return told

    def is_open(self):
        return bool(self.row)


class JoinerCase(RailCase):
    def assert_take(self, joiner, piece, told, is_open):
        self.assertEqual(self.told(joiner.take, piece), told)
        self.assertIs(joiner.is_open(), is_open)

    def assert_end(self, joiner, told):
        self.assertEqual(joiner.end(), told)
        self.assertIs(joiner.is_open(), False)


class TakeTest(JoinerCase):
    def opened(self):
        """A joiner with a thing open, tag 8, of which one piece of three came."""
        joiner = Joiner()
        joiner.take(THREE[0])
        return joiner

    def test_a_new_joiner(self):
        joiner = Joiner()
        self.assertIs(joiner.is_open(), False)
        self.assert_end(joiner, [])

    def test_things_of_one_piece(self):
        joiner = Joiner()
        for many in range(6):
            self.assert_take(joiner, [7, 16] + [many] * many, [("whole", 7, [many] * many)], False)

    def test_things_of_many_pieces(self):
        joiner = Joiner()
        for many in range(76):
            thing = some_thing(many, many)
            pieces = cut(many, thing)
            for piece in pieces[:-1]:
                self.assert_take(joiner, piece, [], True)
            self.assert_take(joiner, pieces[-1], [("whole", many, thing)], False)

    def test_number_nought_with_a_thing_open(self):
        self.assert_take(self.opened(), [9, 16, 4], [("broken", 8), ("whole", 9, [4])], False)
        self.assert_take(self.opened(), [8, 16], [("broken", 8), ("whole", 8, [])], False)
        joiner = self.opened()
        self.assert_take(joiner, TWO[0], [("broken", 8)], True)
        self.assert_take(joiner, TWO[1], [("whole", 9, [1, 2, 3, 4, 5, 6])], False)

    def test_the_first_piece_once_more(self):
        joiner = self.opened()
        self.assert_take(joiner, THREE[0], [("broken", 8)], True)
        self.assert_take(joiner, THREE[1], [], True)
        self.assert_take(joiner, THREE[2], [("whole", 8, list(range(12)))], False)

    def test_pieces_that_go_on(self):
        joiner = self.opened()
        self.assert_take(joiner, THREE[1], [], True)
        self.assert_take(joiner, THREE[2], [("whole", 8, list(range(12)))], False)
        self.assert_end(joiner, [])

    def test_a_piece_too_early(self):
        joiner = self.opened()
        self.assert_take(joiner, THREE[2], [("broken", 8)], False)
        self.assert_take(joiner, THREE[2], [], False)
        self.assert_take(joiner, THREE[1], [], False)

    def test_a_piece_once_more(self):
        joiner = self.opened()
        joiner.take(THREE[1])
        self.assert_take(joiner, THREE[1], [("broken", 8)], False)
        self.assert_take(joiner, THREE[2], [], False)

    def test_a_piece_of_another_tag(self):
        joiner = self.opened()
        self.assert_take(joiner, [9] + THREE[1][1:], [("broken", 8), ("broken", 9)], False)
        self.assert_take(joiner, [9] + THREE[2][1:], [], False)
        self.assert_take(joiner, THREE[2], [("broken", 8)], False)

    def test_a_piece_of_another_number_of_pieces(self):
        joiner = self.opened()
        self.assert_take(joiner, [8, 4 * 16 + 1, 1, 2, 3, 4, 5], [("broken", 8)], False)
        self.assert_take(joiner, THREE[1], [], False)

    def test_none_open(self):
        joiner = Joiner()
        self.assert_take(joiner, THREE[1], [("broken", 8)], False)
        self.assert_take(joiner, THREE[2], [], False)
        self.assert_take(joiner, TWO[1], [("broken", 9)], False)
        self.assert_take(joiner, TWO[1], [], False)
        self.assert_take(joiner, THREE[2], [("broken", 8)], False)
        self.assert_end(joiner, [])
        self.assert_take(joiner, THREE[1], [], False)

    def test_the_tag_nought(self):
        joiner = Joiner()
        self.assert_take(joiner, [0, 33, 1], [("broken", 0)], False)
        self.assert_take(joiner, [0, 33, 1], [], False)

    def test_behind_a_piece_of_number_nought_it_is_told_again(self):
        joiner = Joiner()
        self.assert_take(joiner, THREE[1], [("broken", 8)], False)
        self.assert_take(joiner, [8, 16], [("whole", 8, [])], False)
        self.assert_take(joiner, THREE[1], [("broken", 8)], False)
        self.assert_take(joiner, [9, 16], [("whole", 9, [])], False)
        self.assert_take(joiner, THREE[1], [("broken", 8)], False)

    def test_by_a_piece_of_number_nought_it_is_told_again(self):
        joiner = self.opened()
        self.assert_take(joiner, [9, 16], [("broken", 8), ("whole", 9, [])], False)
        self.assert_take(joiner, THREE[1], [("broken", 8)], False)
        joiner = self.opened()
        self.assert_take(joiner, TWO[0], [("broken", 8)], True)
        self.assert_take(joiner, THREE[1], [("broken", 9), ("broken", 8)], False)

    def test_behind_a_whole_thing(self):
        joiner = Joiner()
        for piece in TWO:
            joiner.take(piece)
        self.assert_take(joiner, TWO[1], [("broken", 9)], False)
        self.assert_take(joiner, TWO[1], [], False)

    def test_the_end(self):
        joiner = self.opened()
        self.assert_end(joiner, [("broken", 8)])
        self.assert_end(joiner, [])
        self.assert_take(joiner, THREE[1], [], False)
        self.assert_take(joiner, TWO[1], [("broken", 9)], False)
        self.assert_take(joiner, TWO[0], [], True)
        self.assert_take(joiner, TWO[1], [("whole", 9, [1, 2, 3, 4, 5, 6])], False)
        self.assert_end(joiner, [])

    def test_two_joiners_are_apart(self):
        one = self.opened()
        other = Joiner()
        self.assertIs(other.is_open(), False)
        self.assert_take(other, THREE[1], [("broken", 8)], False)
        self.assert_take(one, THREE[1], [], True)


class NoPieceTest(JoinerCase):
    def no_pieces(self):
        told = [[], [9], [16]]
        for head in range(256):
            many, number = divmod(head, 16)
            for size in range(8):
                good = number < many and (
                    size == 5 if number < many - 1 else size == 0 and many == 1 or 1 <= size <= 5
                )
                if not good:
                    told.append([8, head] + [1] * size)
        return told

    def test_what_is_none_changes_nothing(self):
        fresh = Joiner()
        for piece in self.no_pieces():
            self.assert_refused("NoThing", fresh.take, piece)
            self.assertIs(fresh.is_open(), False)
        self.assert_take(fresh, THREE[1], [("broken", 8)], False)
        for piece in self.no_pieces():
            self.assert_refused("NoThing", fresh.take, piece)
        self.assert_take(fresh, THREE[1], [], False)

    def test_with_a_thing_open(self):
        joiner = Joiner()
        for bad in self.no_pieces():
            self.assertEqual(joiner.take(THREE[0]), [])
            self.assert_refused("NoThing", joiner.take, bad)
            self.assertIs(joiner.is_open(), True)
            self.assertEqual(joiner.take(THREE[1]), [])
            self.assert_refused("NoThing", joiner.take, bad)
            self.assertEqual(joiner.take(THREE[2]), [("whole", 8, list(range(12)))])

    def test_all_others_are_taken(self):
        none = self.no_pieces()
        for head in range(256):
            for size in range(8):
                piece = [8, head] + [1] * size
                if piece not in none:
                    Joiner().take(piece)


class OwnTest(JoinerCase):
    def test_told_lists_are_the_askers_own(self):
        joiner = Joiner()
        pieces = cut(8, list(range(12)))
        for piece in pieces[:2]:
            told = joiner.take(piece)
            told.append(7)
            piece.clear()
        told = joiner.take(pieces[2])
        self.assertEqual(told, [("whole", 8, list(range(12)))])
        told[0][2].append(99)
        told.append(7)
        pieces[2].clear()
        again = []
        for piece in cut(8, list(range(12))):
            again += joiner.take(piece)
        self.assertEqual(again, [("whole", 8, list(range(12)))])
        self.assertEqual(told[0][2], list(range(12)) + [99])
        joiner.end().append(7)
        self.assertEqual(joiner.end(), [])

    def test_kinds(self):
        joiner = Joiner()
        told = joiner.take([9, 16, 5])
        self.assertIs(type(told), list)
        self.assertIs(type(told[0]), tuple)
        self.assert_bits(told[0][2], [5])
        self.assertIs(type(joiner.take([9, 33, 5])[0]), tuple)


class HistoryTest(JoinerCase):
    def test_all_short_rows(self):
        pieces = [[1, 16], [1, 32, 1, 2, 3, 4, 5], [1, 33, 6], [2, 32, 1, 2, 3, 4, 5], [2, 33, 7], None]
        for many in range(6):
            for row in itertools.product(pieces, repeat=many):
                joiner = Joiner()
                history = History()
                for piece in row:
                    told = joiner.end() if piece is None else joiner.take(piece)
                    self.assertEqual(told, history.end() if piece is None else history.take(piece))
                    self.assertIs(joiner.is_open(), history.is_open())

    def test_long_rows(self):
        for seed in range(60):
            joiner = Joiner()
            history = History()
            for number in some_numbers(seed, 80, 40):
                pieces = cut(number % 3, some_thing(number % 97, 1 + number // 3 % 16))
                piece = pieces[number // 64 % len(pieces)]
                self.assertEqual(joiner.take(piece), history.take(piece))
                if number % 11 == 0:
                    self.assertEqual(joiner.end(), history.end())


class LeftOutTest(JoinerCase):
    """Point 33."""

    def assert_joined(self, first, sizes, left_out):
        told = []
        expected = []
        joiner = Joiner()
        place = 0
        for step, size in enumerate(sizes):
            tag = (first + step) % 256
            thing = some_thing(step, size)
            came = 0
            pieces = cut(tag, thing)
            for piece in pieces:
                if not left_out(place):
                    came += 1
                    told += self.told(joiner.take, piece)
                place += 1
            if came == len(pieces):
                expected.append(("whole", tag, thing))
            elif came:
                expected.append(("broken", tag))
        self.assertEqual(told + joiner.end(), expected)
        return expected

    def test_nothing_left_out(self):
        self.assert_joined(200, [size % 76 for size in range(150)], lambda place: False)

    def test_each_piece_alone_left_out(self):
        for gone in range(21):
            self.assert_joined(254, [0, 12, 5, 20, 75], lambda place: place == gone)

    def test_all_choices_of_few_pieces(self):
        for kept in itertools.product((True, False), repeat=10):
            self.assert_joined(255, [12, 3, 15, 6, 1], lambda place: place < 10 and not kept[place])

    def test_some_left_out(self):
        for seed in range(80):
            numbers = some_numbers(seed, 400, 40)
            sizes = [number % (76 if seed % 2 else 12) for number in numbers[:60]]
            often = 2 + seed % 5
            self.assert_joined(seed * 7, sizes, lambda place: numbers[place % 400] // 7 % often == 0)

    def test_254_in_a_row(self):
        for first in (0, 1, 100, 255):
            for size in (1, 12):
                sizes = [6] + [size] * 254 + [6, 6]
                for start in (1, 2, 3):
                    self.assert_joined(first, sizes, lambda place: start <= place < start + 254)
        # Between two things of which one piece came, and the tags are 255 apart.
        expected = self.assert_joined(3, [6] + [1] * 252 + [6, 6, 6], lambda place: 1 <= place < 255)
        self.assertEqual(expected[:2], [("broken", 3), ("broken", 0)])

    def test_a_row_of_broken_things(self):
        expected = self.assert_joined(250, [12] * 20, lambda place: place % 3 == 0)
        self.assertEqual(expected, [("broken", (250 + step) % 256) for step in range(20)])
        expected = self.assert_joined(250, [12] * 20, lambda place: place % 3 == 2)
        self.assertEqual(expected, [("broken", (250 + step) % 256) for step in range(20)])
        expected = self.assert_joined(250, [12] * 20, lambda place: place % 3 == 1)
        self.assertEqual(expected, [("broken", (250 + step) % 256) for step in range(20)])


if __name__ == "__main__":
    unittest.main()
