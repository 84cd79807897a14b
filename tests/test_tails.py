"""bitrail.tails: point 20."""

import itertools
import unittest

from bitrail.tails import ReadTail, SpeakTail
from tests.helper import RailCase

VOTES = (1, 3, 5)


class TailTest(RailCase):
    def walk(self, tail, reads, bits):
        """Told the bits one by one, it says at each place what it is to say; the words are told."""
        words = []
        for place, bit in enumerate(bits):
            self.assert_number(tail.place(), place)
            for _ in range(2):
                self.assert_number(tail.says(), 0 if reads and place == 1 else 1)
            words.append(tail.hear(bit))
        return words

    def tails(self, votes):
        return ((ReadTail(votes), True), (SpeakTail(votes), False))

    def test_a_new_tail(self):
        for votes in VOTES:
            for tail, _ in self.tails(votes):
                self.assert_number(tail.place(), 0)
                self.assert_number(tail.says(), 1)

    def test_a_tail_without_faults(self):
        for votes in VOTES:
            for tail, reads in self.tails(votes):
                bits = [1, 0, 1] + [1] * 6 + [1] * votes
                self.assertEqual(self.walk(tail, reads, bits), ["more"] * (8 + votes) + ["taken"])

    def test_a_reader_passes_over_what_it_hears_at_the_answer(self):
        for votes in VOTES:
            bits = [1, 1, 1] + [1] * 6 + [1] * votes
            self.assertEqual(self.walk(ReadTail(votes), True, bits), ["more"] * (8 + votes) + ["taken"])

    def test_a_speaker_without_an_answer(self):
        for votes in VOTES:
            self.assertEqual(self.walk(SpeakTail(votes), False, [1, 1]), ["more", "fault"])

    def test_a_nought_ahead_of_the_votes(self):
        for votes in VOTES:
            for place in (0, 2, 3, 4, 5, 6, 7, 8):
                bits = ([1, 0] + [1] * 7)[:place] + [0]
                for tail, reads in self.tails(votes):
                    self.assertEqual(self.walk(tail, reads, bits), ["more"] * place + ["fault"])

    def test_all_votes(self):
        for votes in VOTES:
            for heard in itertools.product((0, 1), repeat=votes):
                last = "refused" if heard.count(0) > votes // 2 else "taken"
                for tail, reads in self.tails(votes):
                    bits = [1, 0] + [1] * 7 + list(heard)
                    self.assertEqual(self.walk(tail, reads, bits), ["more"] * (8 + votes) + [last])

    def test_just_so_many_noughts(self):
        for votes, most in ((1, 0), (3, 1), (5, 2)):
            for noughts, word in ((most, "taken"), (most + 1, "refused")):
                for tail, reads in self.tails(votes):
                    bits = [1, 0] + [1] * 7 + [1] * (votes - noughts) + [0] * noughts
                    self.assertEqual(self.walk(tail, reads, bits)[-1], word)
                    self.assert_number(tail.place(), 9 + votes)

    def test_the_answer_does_not_count_as_a_vote(self):
        for votes, most in ((1, 0), (3, 1), (5, 2)):
            bits = [1, 0] + [1] * 7 + [0] * most + [1] * (votes - most)
            self.assertEqual(self.walk(ReadTail(votes), True, bits)[-1], "taken")

    def test_two_tails_are_apart(self):
        one = ReadTail(3)
        other = SpeakTail(3)
        one.hear(1)
        self.assert_number(other.place(), 0)
        self.assert_number(one.says(), 0)


if __name__ == "__main__":
    unittest.main()
