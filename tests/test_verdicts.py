"""bitrail.verdicts: points 28 and 29, point 5 over them, and point 2."""

import itertools
import unittest

from bitrail.frames import wire_of
from bitrail.posts import Post
from bitrail.verdicts import parting, verdicts
from tests.helper import RailCase, some_numbers

VOTES = (1, 3, 5)
WORDS = {"fault": "fault", "off": "fault", "refuses": "refused", "takes": "taken", "done": "taken"}


def plain_verdicts(many, votes, wrong):
    """The verdicts by the places at which the posts found their faults."""
    faults = [None] * many
    noughts = [0] * many
    for place in range(9 + votes):
        said = []
        for post in range(many):
            if faults[post] is not None:
                said.append(0 if place - faults[post] <= 6 else 1)
            else:
                said.append(0 if place == 1 and post > 0 else 1)
        for post in range(many):
            bit = min(said) ^ ((post, place) in wrong)
            if faults[post] is not None:
                continue
            if place > 8:
                noughts[post] += 1 - bit
            elif place == 1 and post == 0 and bit == 1 or place != 1 and bit == 0:
                faults[post] = place
    return ["fault" if fault is not None else "refused" if noughts[post] > votes // 2 else "taken"
            for post, fault in enumerate(faults)]


def verdicts_of_posts(many, votes, wrong):
    """The same by posts that said and read a frame: the first word that each tells in the tail."""
    posts = [Post((0, 0), votes) for _ in range(many)]
    posts[0].hand(9, [8])
    for bit in wire_of(9, [8]):
        for post in posts:
            post.hear(bit)
    words = [""] * many
    for place in range(9 + votes):
        bit = min(post.says() for post in posts)
        for number, post in enumerate(posts):
            word = post.hear(bit ^ ((number, place) in wrong))
            words[number] = words[number] or word
    return [WORDS[word] for word in words]


def is_parted(words):
    return len({word == "taken" for word in words}) == 2


class VerdictsTest(RailCase):
    def assert_verdicts(self, many, votes, wrong):
        told = self.told(verdicts, many, votes, wrong)
        self.assertIs(type(told), list)
        self.assertEqual(told, plain_verdicts(many, votes, wrong))
        return told

    def test_without_wrong_pairs(self):
        for many in range(2, 6):
            for votes in VOTES:
                self.assertEqual(self.assert_verdicts(many, votes, []), ["taken"] * many)

    def test_some(self):
        self.assertEqual(verdicts(3, 3, [(1, 9)]), ["taken"] * 3)
        self.assertEqual(verdicts(3, 3, [(1, 9), (1, 10)]), ["taken", "refused", "taken"])
        self.assertEqual(verdicts(3, 3, [(0, 9), (0, 11)]), ["refused", "taken", "taken"])
        self.assertEqual(verdicts(3, 3, [(1, 4)]), ["fault"] * 3)
        self.assertEqual(verdicts(3, 3, [(0, 1)]), ["fault"] * 3)
        self.assertEqual(verdicts(3, 3, [(1, 1)]), ["taken"] * 3)
        self.assertEqual(verdicts(3, 3, [(2, 8)]), ["refused", "refused", "fault"])
        self.assertEqual(verdicts(3, 1, [(2, 9)]), ["taken", "taken", "refused"])
        self.assertEqual(verdicts(2, 5, [(0, 8), (1, 9)]), ["fault", "refused"])

    def test_six_noughts_and_then_ones(self):
        # All others pass over the noughts of the first one's flag but the last, which is their vote.
        wrong = [(0, 3)] + [(post, place) for post in (1, 2) for place in range(4, 9)]
        self.assertEqual(self.assert_verdicts(3, 1, wrong), ["fault", "refused", "refused"])
        wrong = [(0, 2)] + [(post, place) for post in (1, 2) for place in range(3, 9)]
        self.assertEqual(self.assert_verdicts(3, 1, wrong), ["fault", "taken", "taken"])

    def test_whatever_a_post_hears_behind_its_fault(self):
        wrong = [(0, 2)] + [(post, place) for post in (1, 2) for place in range(3, 9)]
        for more in range(3, 10):
            self.assertEqual(self.assert_verdicts(3, 1, wrong + [(0, more)]), ["fault", "taken", "taken"])

    def test_all_rows_of_one_and_two_pairs(self):
        for many in (2, 3):
            for votes in VOTES:
                pairs = [(post, place) for post in range(many) for place in range(9 + votes)]
                for size in (1, 2):
                    for row in itertools.combinations(pairs, size):
                        self.assert_verdicts(many, votes, list(row))

    def test_longer_rows(self):
        for seed in range(600):
            many = 2 + seed % 4
            votes = VOTES[seed % 3]
            numbers = some_numbers(seed, 1 + seed % 13, 40)
            self.assert_verdicts(many, votes, [(number % many, number // many % (9 + votes)) for number in numbers])

    def test_as_posts_have_it(self):
        for many in (2, 3, 5):
            for votes in VOTES:
                for wrong in [[]] + [[(post, place)] for post in range(many) for place in range(9 + votes)]:
                    self.assertEqual(verdicts(many, votes, wrong), verdicts_of_posts(many, votes, wrong))

    def test_a_pair_told_twice(self):
        for row in ([(1, 9), (1, 10)], [(1, 4)], [(0, 1)], [(2, 11), (0, 11)]):
            expected = verdicts(3, 3, row)
            for more in (row, row * 2, row[:1]):
                self.assertEqual(self.told(verdicts, 3, 3, row + more), expected)

    def test_another_number_of_posts(self):
        for many in (-(10 ** 99), -2, -1, 0, 1, 6, 7, 10 ** 99):
            for wrong in ([], [(0, 0)]):
                self.assert_refused("NoPost", verdicts, many, 3, wrong)
                self.assert_refused("NoPost", parting, many, 3, wrong, 0)

    def test_other_votes(self):
        for votes in (-(10 ** 99), -1, 0, 2, 4, 6, 7, 9, 10 ** 99):
            for wrong in ([], [(0, 0)]):
                self.assert_refused("NoPost", verdicts, 3, votes, wrong)
                self.assert_refused("NoPost", parting, 3, votes, wrong, 2)

    def test_a_post_that_there_is_not(self):
        for many in range(2, 6):
            for post in (-1, many, many + 1, 10 ** 99, -(10 ** 99)):
                for wrong in ([(post, 0)], [(0, 0), (post, 9)], [(post, 3), (1, 1)]):
                    self.assert_refused("NoPost", verdicts, many, 3, wrong)
                    for most in (0, 1, 3):
                        self.assert_refused("NoPost", parting, many, 3, wrong, most)

    def test_a_place_that_is_none(self):
        for votes in VOTES:
            for place in (-1, 9 + votes, 10 + votes, 10 ** 99, -(10 ** 99)):
                for wrong in ([(0, place)], [(0, 0), (1, place)], [(1, place), (1, 1)]):
                    self.assert_refused("NoPost", verdicts, 3, votes, wrong)
                    for most in (0, 1, 3):
                        self.assert_refused("NoPost", parting, 3, votes, wrong, most)
            self.assertEqual(len(verdicts(2, votes, [(1, 8 + votes)])), 2)

    def test_told_lists_are_the_askers_own(self):
        self.assert_own_list(verdicts, 3, 3, [(1, 4)])


class PartingTest(RailCase):
    def expected(self, many, votes, places, most):
        rows = [list(row) for size in range(most + 1) for row in itertools.combinations(places, size)]
        return [row for row in rows if is_parted(plain_verdicts(many, votes, row))]

    def assert_parting(self, many, votes, places, most):
        told = self.told(parting, many, votes, places, most)
        self.assertEqual(told, self.expected(many, votes, places, most))
        for row in told:
            self.assertIs(type(row), list)
            self.assertTrue(all(type(pair) is tuple for pair in row))
        return told

    def test_some(self):
        places = [(1, 11), (1, 9), (2, 4), (1, 10)]
        rows = [[(1, 11), (1, 9)], [(1, 11), (1, 10)], [(1, 9), (1, 10)]]
        for most, expected in ((0, []), (1, []), (2, rows), (3, rows + [[(1, 11), (1, 9), (1, 10)]])):
            self.assertEqual(parting(3, 3, places, most), expected)

    def test_no_places(self):
        for most in range(4):
            self.assertEqual(parting(2, 1, [], most), [])

    def test_lists_of_up_to_twelve_pairs(self):
        for seed in range(40):
            many = 2 + seed % 4
            votes = VOTES[seed % 3]
            pairs = [(number % many, number // many % (9 + votes)) for number in some_numbers(seed, 60, 40)]
            pairs = list(dict.fromkeys(pairs))[:1 + seed % 12]
            for most in range(4):
                self.assert_parting(many, votes, pairs, most)

    def test_twelve_votes_of_many_posts(self):
        places = [(post, place) for place in (13, 9, 11, 10) for post in (2, 0, 1)]
        self.assertEqual(len(places), 12)
        told = self.assert_parting(3, 5, places, 3)
        self.assertGreater(len(told), 3)

    def test_no_row_of_up_to_half_the_votes(self):
        for many in range(2, 6):
            for votes in VOTES:
                pairs = [(post, place) for post in range(many) for place in range(9 + votes)]
                for start in range(0, len(pairs), 4):
                    some = (pairs + pairs)[start:start + 12]
                    self.assertEqual(parting(many, votes, some, votes // 2), [])
                if many < 5:
                    for size in range(votes // 2 + 1):
                        for row in itertools.combinations(pairs, size):
                            self.assertFalse(is_parted(verdicts(many, votes, list(row))))

    def test_each_row_of_one_more_votes_of_one_post(self):
        for many in range(2, 6):
            for votes in VOTES:
                for post in range(many):
                    places = [(post, 9 + vote) for vote in range(votes)]
                    rows = [list(row) for row in itertools.combinations(places, votes // 2 + 1)]
                    self.assertEqual(parting(many, votes, places, votes // 2 + 1), rows)

    def test_told_lists_are_the_askers_own(self):
        places = [(1, 9), (1, 10), (1, 11)]
        expected = parting(3, 3, list(places), 3)
        self.assertEqual(len(expected), 4)
        told = self.told(parting, 3, 3, places, 3)
        for row in told:
            row.append(7)
            row[0] = 9
        self.assertEqual(self.told(parting, 3, 3, places, 3), expected)
        told = parting(3, 3, places, 3)
        told[0].clear()
        self.assertEqual(told[1:], expected[1:])
        places.clear()
        self.assertEqual(told[1:], expected[1:])


if __name__ == "__main__":
    unittest.main()
