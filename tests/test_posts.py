"""bitrail.posts, with bitrail.stances: points 21 to 24, and over them point 2."""

import unittest

from bitrail.checks import check_of
from bitrail.frames import frame_bits, wire_of
from bitrail.posts import Post
from bitrail.putting import put_in
from tests.helper import FAR, FRAMES, RailCase, some_numbers, tell, with_faults

ALL = (0, 0)
VOTES = (1, 3, 5)
TAIL = [1, 0] + [1] * 7
NO_FRAMES = [(name, []) for name in FAR] + [(3, [byte]) for byte in FAR] + [(3, [0, byte, 1]) for byte in FAR] + [
    (3, [0] * 8),
    (3, [0] * 100),
    (256, [0] * 8),
]


def speaking(frame, many, count=0, votes=3):
    """A post that said so many bits of the frame's wire."""
    post = with_faults(count, votes=votes)
    post.hand(*frame)
    if post.is_quiet():
        tell(post, [1] * 8)
    tell(post, wire_of(*frame)[:many])
    return post


def in_own_tail(frame, many, count=0, votes=3):
    post = speaking(frame, len(wire_of(*frame)), count, votes)
    tell(post, (TAIL + [1] * votes)[:many])
    return post


def reading(wire, many, count=0, votes=3, choice=ALL):
    post = with_faults(count, choice, votes)
    tell(post, wire[:many])
    return post


def in_read_tail(frame, many, count=0, votes=3, choice=ALL):
    wire = wire_of(*frame)
    post = reading(wire, len(wire), count, votes, choice)
    tell(post, (TAIL + [1] * votes)[:many])
    return post


class PostCase(RailCase):
    def assert_post(self, post, stance, faults):
        told = post.stance()
        self.assertIs(type(told), tuple)
        self.assertEqual(told, stance)
        self.assert_number(told[1], stance[1])
        self.assert_number(post.faults(), faults)
        self.assertIs(post.is_quiet(), faults >= 12)
        self.assertIs(post.is_off(), faults >= 18)

    def assert_says(self, post, bit):
        before = (post.stance(), post.faults(), post.waits(), post.got())
        for _ in range(3):
            self.assert_number(post.says(), bit)
        self.assertEqual((post.stance(), post.faults(), post.waits(), post.got()), before)

    def assert_step(self, post, says, bit, word, stance, faults):
        self.assert_says(post, says)
        self.assertEqual(post.hear(bit), word)
        self.assert_post(post, stance, faults)

    def assert_off(self, post, faults):
        waits = post.waits()
        got = post.got()
        for bit in [0, 1, 1, 0, 0, 0, 0, 0, 0, 0] + [1] * 12 + wire_of(3, [4]) + TAIL + [1] * 9:
            self.assert_step(post, 1, bit, "", ("off", 0), faults)
        self.assertEqual(post.waits(), waits)
        self.assertEqual(post.got(), got)


class NewPostTest(PostCase):
    def test_a_new_post(self):
        for votes in VOTES:
            for choice in (ALL, (255, 255), (240, 3), (0, 255)):
                post = Post(choice, votes)
                self.assert_post(post, ("free", 0), 0)
                self.assert_says(post, 1)
                self.assertEqual(post.waits(), [])
                self.assertEqual(post.got(), [])

    def test_other_votes(self):
        for votes in (0, 2, 4, 6, 7, -1, -3, 10 ** 99, -(10 ** 99)):
            self.assert_refused("NoPost", Post, ALL, votes)

    def test_a_mask_or_match_that_is_no_byte(self):
        for number in FAR:
            for choice in ((number, 0), (0, number), (255, number), (number, number)):
                self.assert_refused("NoPost", Post, choice, 3)


class HandTest(PostCase):
    def test_frames_wait_in_their_order(self):
        post = Post(ALL, 3)
        for place, frame in enumerate(FRAMES):
            self.assertIsNone(self.told(post.hand, *frame))
            self.assertEqual(post.waits(), FRAMES[:place + 1])
        self.assertIs(type(post.waits()[0]), tuple)
        self.assert_post(post, ("free", 0), 0)
        self.assertEqual(post.got(), [])

    def test_what_is_no_frame(self):
        post = Post(ALL, 3)
        post.hand(5, [6])
        for name, data in NO_FRAMES:
            self.assert_refused("NoFrame", post.hand, name, data)
            self.assertEqual(post.waits(), [(5, [6])])
        self.assert_post(post, ("free", 0), 0)

    def test_told_lists_are_the_askers_own(self):
        post = in_read_tail((9, [1, 2]), 12)
        data = [6, 7]
        post.hand(5, data)
        data.append(8)
        data[0] = 0
        for ask, expected in ((post.waits, [(5, [6, 7])]), (post.got, [(9, [1, 2])])):
            first = ask()
            first[0][1].append(3)
            first[0][1][0] = 99
            first.append((1, []))
            self.assertEqual(ask(), expected)
        early = post.waits()
        post.hand(4, [])
        self.assertEqual(early, [(5, [6, 7])])
        early = post.got()
        tell(post, [1] * 3)
        tell(post, wire_of(*post.waits()[0]) + TAIL + [1] * 3)
        self.assertEqual(early, [(9, [1, 2])])

    def test_a_frame_may_be_handed_in_each_stance(self):
        for post in (
            speaking((5, [6]), 20), in_own_tail((5, [6]), 4), reading(wire_of(5, []), 7), in_read_tail((5, []), 3),
            reading([0] * 6, 6), reading([0] * 6 + [1] * 6, 12), with_faults(18),
        ):
            stance, count, says, waits = post.stance(), post.faults(), post.says(), post.waits()
            post.hand(0, [1])
            self.assert_post(post, stance, count)
            self.assert_says(post, says)
            self.assertEqual(post.waits(), waits + [(0, [1])])


class FreeTest(PostCase):
    def test_without_a_frame(self):
        post = Post(ALL, 3)
        for turn in range(40):
            self.assert_step(post, 1, 1, "", ("free", turn + 1), 0)
        self.assert_step(post, 1, 0, "", ("reads", 1), 0)

    def test_with_a_frame(self):
        for ahead in (0, 1, 7, 8, 20):
            post = Post(ALL, 3)
            tell(post, [1] * ahead)
            post.hand(5, [6])
            self.assert_post(post, ("free", ahead), 0)
            self.assert_step(post, 0, 0, "begins", ("speaks", 1), 0)
            self.assertEqual(post.waits(), [(5, [6])])

    def test_a_nought_said_and_a_one_heard(self):
        for ahead in (0, 3, 9):
            post = Post(ALL, 3)
            tell(post, [1] * ahead)
            post.hand(5, [6])
            self.assert_step(post, 0, 1, "fault", ("flag", 6), 8)
            self.assertEqual(post.waits(), [(5, [6])])

    def test_quiet_without_a_frame(self):
        post = with_faults(12)
        for turn in range(12):
            self.assert_step(post, 1, 1, "", ("free", turn + 1), 12)

    def test_quiet_with_a_frame(self):
        for count in (12, 17):
            post = with_faults(count)
            post.hand(5, [6])
            for turn in range(8):
                self.assert_step(post, 1, 1, "", ("free", turn + 1), count)
            self.assert_step(post, 0, 0, "begins", ("speaks", 1), count)

    def test_quiet_with_a_frame_reads_a_nought(self):
        for ahead in range(8):
            post = with_faults(12)
            post.hand(5, [6])
            tell(post, [1] * ahead)
            self.assert_step(post, 1, 0, "", ("reads", 1), 12)

    def test_not_quiet_just_below(self):
        post = with_faults(11)
        post.hand(5, [6])
        self.assert_step(post, 0, 0, "begins", ("speaks", 1), 11)

    def test_quiet_for_long(self):
        for ahead in (8, 9, 30):
            post = with_faults(12)
            tell(post, [1] * ahead)
            self.assert_says(post, 1)
            post.hand(5, [6])
            self.assert_step(post, 0, 1, "off", ("off", 0), 20)


class SpeaksTest(PostCase):
    def expected(self, frame, place):
        """What the document asks for where at that place of the wire the other bit is heard than is said."""
        wire = wire_of(*frame)
        heard = wire[:place] + [1 - wire[place]]
        if place >= 5 and len(set(heard[-6:])) == 1:
            return "fault"
        bits = frame_bits(*frame)
        plain = max(many for many in range(len(bits) + 1) if len(put_in(bits[:many])) <= place)
        return "loses" if wire[place] == 1 and plain < 9 else "fault"

    def test_all_bits_of_the_wire_are_said(self):
        for frame in FRAMES:
            post = Post(ALL, 3)
            post.hand(*frame)
            wire = wire_of(*frame)
            for place, bit in enumerate(wire):
                stance = ("speaks", place + 1) if place + 1 < len(wire) else ("tail speaks", 0)
                self.assert_step(post, bit, bit, "begins" if place == 0 else "", stance, 0)
            self.assertEqual(post.waits(), [frame])

    def test_another_bit_heard_at_each_place(self):
        words = {"loses": 0, "fault": 0}
        for frame in FRAMES + [(name, []) for name in range(256)]:
            wire = wire_of(*frame)
            for place in range(1, min(len(wire), 40)):
                post = speaking(frame, place)
                word = self.expected(frame, place)
                words[word] += 1
                self.assert_says(post, wire[place])
                self.assertEqual(post.hear(1 - wire[place]), word)
                stance = ("reads", place + 1) if word == "loses" else ("flag", 6)
                self.assert_post(post, stance, 0 if word == "loses" else 8)
                self.assertEqual(post.waits(), [frame])
        self.assertGreater(min(words.values()), 500)

    def test_each_bit_of_the_name_may_lose_and_no_bit_of_the_size(self):
        frame = (219, [0xB6] * 7)
        self.assertEqual(wire_of(*frame)[:12], [0, 1, 1, 0, 1, 1, 0, 1, 1, 1, 1, 1])
        for place in (1, 2, 4, 5, 7, 8):
            self.assert_step(speaking(frame, place), 1, 0, "loses", ("reads", place + 1), 0)
        for place in (9, 10, 11):
            self.assert_step(speaking(frame, place), 1, 0, "fault", ("flag", 6), 8)
        for place in (3, 6, 12):
            self.assert_step(speaking(frame, place), 0, 1, "fault", ("flag", 6), 8)

    def test_bits_put_in_are_not_counted(self):
        # Of the wire 00000 1 0 0 1.. the bit 1 at place 8 is the eighth plain one, that at 9 the ninth.
        frame = (3, [])
        self.assertEqual(wire_of(*frame)[:10], [0, 0, 0, 0, 0, 1, 0, 0, 1, 1])
        for place in (8, 9):
            self.assert_step(speaking(frame, place), 1, 0, "loses", ("reads", place + 1), 0)
        self.assert_step(speaking(frame, 5), 1, 0, "fault", ("flag", 6), 8)

    def test_the_sixth_alike_bit_is_a_fault_and_no_loss(self):
        frame = (7, [])
        self.assertEqual(wire_of(*frame)[:6], [0, 0, 0, 0, 0, 1])
        self.assert_step(speaking(frame, 5), 1, 0, "fault", ("flag", 6), 8)

    def test_who_loses_reads_the_lesser_name(self):
        for own, other in ((219, 218), (128, 127), (255, 0), (5, 4), (33, 31), (4, 3)):
            post = Post(ALL, 3)
            post.hand(own, [1, 2])
            post.hand(own, [3])
            wire = wire_of(other, [9, 8, 7])
            words = tell(post, wire)
            self.assertEqual(sorted(words), [""] * (len(wire) - 2) + ["begins", "loses"])
            self.assert_post(post, ("tail reads", 0), 0)
            self.assertEqual(tell(post, TAIL + [1] * 3), [""] * 11 + ["takes"])
            self.assertEqual(post.got(), [(other, [9, 8, 7])])
            self.assertEqual(post.waits(), [(own, [1, 2]), (own, [3])])
            tell(post, [1] * 3)
            self.assert_step(post, 0, 0, "begins", ("speaks", 1), 0)

    def test_who_lost_reads_from_the_first_nought_on(self):
        post = speaking((255, []), 1)
        self.assert_step(post, 1, 0, "loses", ("reads", 2), 0)
        tell(post, [0] * 3)
        self.assert_step(post, 1, 0, "fault", ("flag", 6), 1)

    def test_frames_handed_meanwhile_do_not_change_what_is_said(self):
        post = speaking((5, [6]), 10)
        post.hand(1, [])
        self.assertEqual(tell(post, wire_of(5, [6])[10:] + TAIL + [1] * 3)[-1], "done")
        self.assertEqual(post.waits(), [(1, [])])


class ReadsTest(PostCase):
    def test_a_wire_is_read(self):
        for frame in FRAMES:
            post = Post(ALL, 3)
            wire = wire_of(*frame)
            for place, bit in enumerate(wire):
                stance = ("reads", place + 1) if place + 1 < len(wire) else ("tail reads", 0)
                self.assert_step(post, 1, bit, "", stance, 0)
            self.assertEqual(post.got(), [])

    def test_a_sixth_alike_bit(self):
        for wire, many in (([0] * 6, 5), ([0] + [1] * 6, 6), ([0] * 5 + [1] * 6, 10)):
            post = reading(wire, many)
            self.assert_post(post, ("reads", many), 0)
            self.assert_step(post, 1, wire[many], "fault", ("flag", 6), 1)

    def test_another_check(self):
        for frame in FRAMES:
            bits = frame_bits(*frame)
            wire = put_in(bits[:-1] + [1 - bits[-1]])
            post = reading(wire, len(wire) - 1)
            self.assert_step(post, 1, wire[-1], "fault", ("flag", 6), 1)

    def test_with_a_frame_that_waits(self):
        post = with_faults(12)
        post.hand(5, [6])
        tell(post, wire_of(9, [8]))
        self.assert_post(post, ("tail reads", 0), 12)
        self.assertEqual(post.waits(), [(5, [6])])


class TailsTest(PostCase):
    def test_done(self):
        for votes in VOTES:
            for count, left in ((0, 0), (1, 0), (5, 4), (12, 11), (17, 16)):
                post = in_own_tail((5, [6]), 0, count, votes)
                post.hand(4, [3])
                for place, bit in enumerate(TAIL + [1] * (votes - 1)):
                    self.assert_post(post, ("tail speaks", place), count)
                    self.assert_step(post, 1, bit, "", ("tail speaks", place + 1), count)
                self.assertEqual(post.waits(), [(5, [6]), (4, [3])])
                self.assert_step(post, 1, 1, "done", ("rests", 3), left)
                self.assertEqual(post.waits(), [(4, [3])])
                self.assertEqual(post.got(), [])

    def test_takes(self):
        for votes in VOTES:
            for count, left in ((0, 0), (1, 0), (5, 4), (12, 11), (17, 16)):
                for answer in (0, 1):
                    post = in_read_tail((5, [6]), 0, count, votes)
                    for place, bit in enumerate([1, answer] + [1] * (6 + votes)):
                        says = 0 if place == 1 else 1
                        self.assert_step(post, says, bit, "", ("tail reads", place + 1), count)
                    self.assertEqual(post.got(), [])
                    self.assert_step(post, 1, 1, "takes", ("rests", 3), left)
                    self.assertEqual(post.got(), [(5, [6])])

    def test_only_what_the_choice_wants_is_handed_up(self):
        for choice in (ALL, (255, 5), (255, 6), (1, 1), (1, 0), (0, 1), (240, 0), (4, 4)):
            for name in (5, 6, 21, 0, 255):
                post = in_read_tail((name, [6]), 11, 1, 3, choice)
                self.assert_step(post, 1, 1, "takes", ("rests", 3), 0)
                wanted = (name & choice[0]) == choice[1]
                self.assertEqual(post.got(), [(name, [6])] if wanted else [])

    def test_frames_are_handed_up_in_their_order(self):
        post = Post(ALL, 1)
        for frame in FRAMES:
            self.assertEqual(tell(post, wire_of(*frame) + TAIL + [1] + [1] * 3)[-4:], ["takes", "", "", ""])
        self.assertEqual(post.got(), FRAMES)

    def test_a_fault_in_the_own_tail(self):
        for votes in VOTES:
            for place in (0, 2, 3, 4, 5, 6, 7, 8):
                post = in_own_tail((5, [6]), place, 0, votes)
                self.assert_step(post, 1, 0, "fault", ("flag", 6), 8)
                self.assertEqual(post.waits(), [(5, [6])])
            self.assert_step(in_own_tail((5, [6]), 1, 0, votes), 1, 1, "fault", ("flag", 6), 8)

    def test_a_fault_in_a_read_tail(self):
        for votes in VOTES:
            for place in (0, 2, 3, 4, 5, 6, 7, 8):
                post = in_read_tail((5, [6]), place, 0, votes)
                self.assert_step(post, 1, 0, "fault", ("flag", 6), 1)
                self.assertEqual(post.got(), [])

    def test_refuses(self):
        for votes in VOTES:
            for count in (0, 5):
                most = votes // 2
                post = in_own_tail((5, [6]), 9, count, votes)
                tell(post, [0] * most + [1] * (votes - most - 1))
                self.assert_step(post, 1, 0, "refuses", ("settles", 0), count + 8)
                self.assertEqual(post.waits(), [(5, [6])])
                post = in_read_tail((5, [6]), 9, count, votes)
                tell(post, [1] * (votes - most - 1) + [0] * most)
                self.assert_step(post, 1, 0, "refuses", ("settles", 0), count + 1)
                self.assertEqual(post.got(), [])

    def test_no_more_noughts_than_may_be(self):
        for votes in VOTES:
            most = votes // 2
            for post, word in ((in_own_tail((5, [6]), 9, 0, votes), "done"),
                               (in_read_tail((5, [6]), 9, 0, votes), "takes")):
                self.assertEqual(tell(post, [0] * most + [1] * (votes - most))[-1], word)

    def test_behind_a_refusal_there_is_no_blame(self):
        for post, count in ((in_own_tail((5, [6]), 9, 0, 1), 8), (in_read_tail((5, [6]), 9, 0, 1), 1)):
            post.hear(0)
            for _ in range(9):
                self.assert_step(post, 1, 0, "", ("settles", 0), count)
            self.assert_step(post, 1, 1, "", ("rests", 3), count)


class FlagTest(PostCase):
    def test_six_noughts_whatever_is_heard(self):
        for heard in ([0] * 6, [1] * 6, [0, 1] * 3, [1, 1, 0, 0, 1, 0]):
            post = reading([0] * 6, 6)
            for place, bit in enumerate(heard):
                self.assert_post(post, ("flag", 6 - place), 1)
                stance = ("flag", 5 - place) if place < 5 else ("settles", 0)
                self.assert_step(post, 0, bit, "", stance, 1)

    def test_settles_till_a_one(self):
        post = reading([0] * 6 + [1] * 6, 12)
        self.assert_step(post, 1, 1, "", ("rests", 3), 1)

    def test_a_blame(self):
        for heard in (0, 1):
            post = reading([0] * 6 + [heard] * 6, 12)
            self.assert_step(post, 1, 0, "", ("settles", 0), 9)
            for _ in range(5):
                self.assert_step(post, 1, 0, "", ("settles", 0), 9)
            self.assert_step(post, 1, 1, "", ("rests", 3), 9)

    def test_a_fault_of_each_kind_of_one_who_did_not_speak(self):
        rests = in_read_tail((5, [6]), 12, 1)
        bits = frame_bits(5, [6])
        bad = put_in(bits[:12] + [1 - bit for bit in bits[12:20]] + check_of([1]))
        for post, bit in ((rests, 0), (in_read_tail((5, [6]), 4, 0), 0), (reading(bad, len(bad) - 1), bad[-1])):
            count = post.faults() + 1
            self.assertEqual(post.hear(bit), "fault")
            tell(post, [0] * 6)
            self.assert_step(post, 1, 0, "", ("settles", 0), count + 8)

    def test_one_who_lost_may_be_blamed(self):
        post = speaking((255, []), 1)
        tell(post, [0] * 5)
        self.assert_post(post, ("flag", 6), 1)
        tell(post, [0] * 6)
        self.assert_step(post, 1, 0, "", ("settles", 0), 9)

    def test_one_who_spoke_is_not_blamed(self):
        free = Post(ALL, 3)
        free.hand(5, [6])
        for post, bit in ((free, 1), (speaking((219, []), 3), 1), (in_own_tail((5, [6]), 0), 0)):
            self.assertEqual(post.hear(bit), "fault")
            tell(post, [0] * 6)
            for _ in range(4):
                self.assert_step(post, 1, 0, "", ("settles", 0), 8)
            self.assert_step(post, 1, 1, "", ("rests", 3), 8)

    def test_a_later_fault_is_judged_by_itself(self):
        post = speaking((219, []), 3)
        tell(post, [1] + [0] * 6 + [1])
        self.assert_step(post, 1, 0, "fault", ("flag", 6), 9)
        tell(post, [0] * 6)
        self.assert_step(post, 1, 0, "", ("settles", 0), 17)


class RestsTest(PostCase):
    def test_three_ones(self):
        post = in_read_tail((5, [6]), 12)
        self.assert_post(post, ("rests", 3), 0)
        self.assert_step(post, 1, 1, "", ("rests", 2), 0)
        self.assert_step(post, 1, 1, "", ("rests", 1), 0)
        self.assert_step(post, 1, 1, "", ("free", 0), 0)
        self.assert_step(post, 1, 1, "", ("free", 1), 0)

    def test_it_says_a_one_with_a_frame_too(self):
        post = in_own_tail((5, [6]), 12)
        post.hand(4, [])
        for stance in (("rests", 2), ("rests", 1), ("free", 0)):
            self.assert_step(post, 1, 1, "", stance, 0)
        self.assert_step(post, 0, 0, "begins", ("speaks", 1), 0)

    def test_a_nought_is_a_fault(self):
        for ahead in range(3):
            for post in (in_read_tail((5, [6]), 12), in_own_tail((5, [6]), 12)):
                tell(post, [1] * ahead)
                self.assert_step(post, 1, 0, "fault", ("flag", 6), 1)


class OffTest(PostCase):
    def test_by_a_fault_of_one_who_did_not_speak(self):
        post = reading([0] * 5, 5, 17)
        self.assert_step(post, 1, 0, "off", ("off", 0), 18)
        self.assert_off(post, 18)
        post = in_read_tail((5, []), 0, 17)
        self.assert_step(post, 1, 0, "off", ("off", 0), 18)
        self.assert_off(post, 18)

    def test_by_a_fault_in_rest(self):
        post = with_faults(16)
        tell(post, [0] * 6 + [1] * 7)
        self.assert_post(post, ("rests", 3), 17)
        self.assert_step(post, 1, 0, "off", ("off", 0), 18)
        self.assert_off(post, 18)

    def test_by_a_fault_of_one_who_spoke(self):
        for count in (10, 12, 17):
            post = speaking((219, [1]), 3, count)
            self.assert_step(post, 0, 1, "off", ("off", 0), count + 8)
            self.assert_off(post, count + 8)
            self.assertEqual(post.waits(), [(219, [1])])
            post = in_own_tail((5, []), 4, count)
            self.assert_step(post, 1, 0, "off", ("off", 0), count + 8)
        post = speaking((219, [1]), 3, 9)
        self.assert_step(post, 0, 1, "fault", ("flag", 6), 17)

    def test_by_a_refusal(self):
        post = in_own_tail((5, []), 9, 10, 1)
        self.assert_step(post, 1, 0, "off", ("off", 0), 18)
        self.assert_off(post, 18)
        self.assertEqual(post.waits(), [(5, [])])
        self.assert_step(in_own_tail((5, []), 9, 9, 1), 1, 0, "refuses", ("settles", 0), 17)
        post = in_read_tail((5, []), 9, 17, 1)
        self.assert_step(post, 1, 0, "off", ("off", 0), 18)
        self.assert_off(post, 18)
        self.assertEqual(post.got(), [])
        self.assert_step(in_read_tail((5, []), 9, 16, 1), 1, 0, "refuses", ("settles", 0), 17)

    def test_by_a_blame(self):
        for count in (9, 12, 16):
            post = with_faults(count)
            tell(post, [0] * 6 + [1] * 6)
            self.assert_step(post, 1, 0, "off", ("off", 0), count + 9)
            self.assert_off(post, count + 9)
        post = with_faults(8)
        tell(post, [0] * 6 + [1] * 6)
        self.assert_step(post, 1, 0, "", ("settles", 0), 17)

    def test_frames_are_handed_to_one_who_is_off(self):
        post = with_faults(18)
        post.hand(5, [6])
        self.assertEqual(post.waits(), [(5, [6])])
        self.assert_refused("NoFrame", post.hand, 256, [])
        self.assert_off(post, 18)


class Model:
    """A post's life told as one row of doings, turn by turn, as the document tells it."""

    def __init__(self, choice, votes):
        self.choice = choice
        self.votes = votes
        self.waits = []
        self.got = []
        self.count = 0
        self.word = ""
        self.life = self.live()
        self.said, self.stance = next(self.life)

    def hear(self, bit):
        self.word = ""
        self.said, self.stance = self.life.send(bit)
        return self.word

    def look(self):
        """Frames may have been handed in: a free post's bit hangs on it."""
        if self.stance[0] == "free":
            eager = self.waits and (self.count < 12 or self.stance[1] >= 8)
            self.said = 0 if eager else 1
        return self.said

    def live(self):
        while True:
            since = 0
            while True:
                bit = yield 1, ("free", since)
                if self.said == 0 or bit == 0:
                    break
                since += 1
            if self.said == 1:
                ending = yield from self.read([0])
            elif bit == 0:
                self.word = "begins"
                ending = yield from self.speak()
            else:
                ending = "great"
            resting = False
            while not resting:
                blame = False
                if ending in ("great", "small", "great refusal", "small refusal"):
                    self.count += 8 if "great" in ending else 1
                    self.word = "refuses" if "refusal" in ending else "fault"
                    yield from self.perhaps_off()
                if ending in ("great", "small"):
                    for left in range(6, 0, -1):
                        yield 0, ("flag", left)
                    blame = ending == "small"
                if ending != "good":
                    while (yield 1, ("settles", 0)) == 0:
                        if blame:
                            self.count += 8
                            yield from self.perhaps_off()
                        blame = False
                resting = True
                for left in (3, 2, 1):
                    if (yield 1, ("rests", left)) == 0:
                        resting = False
                        ending = "small"
                        break

    def perhaps_off(self):
        if self.count >= 18:
            self.word = "off"
            while True:
                yield 1, ("off", 0)

    def speak(self):
        wire = wire_of(*self.waits[0])
        for place in range(1, len(wire)):
            bit = yield wire[place], ("speaks", place)
            if wire[place] != bit:
                same = wire[:place] + [bit]
                if len(same) >= 6 and len(set(same[-6:])) == 1:
                    return "great"
                plain = 0
                for many in range(len(frame_bits(*self.waits[0]))):
                    if len(put_in(frame_bits(*self.waits[0])[:many])) <= place:
                        plain = many
                if bit == 1 or plain >= 9:
                    return "great"
                self.word = "loses"
                return (yield from self.read(same))
        return (yield from self.tail(True, None))

    def read(self, heard):
        while True:
            bit = yield 1, ("reads", len(heard))
            heard = heard + [bit]
            text = "".join(str(one) for one in heard)
            if text.endswith("0" * 6) or text.endswith("1" * 6):
                return "small"
            plain = []
            alike = 0
            for place, one in enumerate(heard):
                if alike != 5:
                    plain.append(one)
                alike = alike + 1 if place and heard[place - 1] == one else 1
            if alike == 5 or len(plain) < 12:
                continue
            size = plain[9] * 4 + plain[10] * 2 + plain[11]
            if len(plain) < 27 + 8 * size:
                continue
            if check_of(plain[:-15]) != plain[-15:]:
                return "small"
            bytes_at = [int("".join(str(one) for one in plain[12 + 8 * k:20 + 8 * k]), 2) for k in range(size)]
            return (yield from self.tail(False, (int("".join(str(one) for one in plain[1:9]), 2), bytes_at)))

    def tail(self, spoke, frame):
        votes = 0
        for place in range(9 + self.votes):
            said = 0 if place == 1 and not spoke else 1
            bit = yield said, ("tail speaks" if spoke else "tail reads", place)
            if place in (0, 2, 3, 4, 5, 6, 7, 8) and bit == 0 or place == 1 and spoke and bit == 1:
                return "great" if spoke else "small"
            if place > 8 and bit == 0:
                votes += 1
        if votes > self.votes // 2:
            return "great refusal" if spoke else "small refusal"
        self.count = max(0, self.count - 1)
        if spoke:
            self.word = "done"
            self.waits.pop(0)
        else:
            self.word = "takes"
            if frame[0] & self.choice[0] == self.choice[1]:
                self.got.append(frame)
        return "good"


class WholeRunTest(PostCase):
    def run_both(self, post, model, bits):
        for turn, bit in enumerate(bits):
            self.assertEqual(post.says(), model.look(), turn)
            self.assertEqual(post.hear(bit), model.hear(bit), turn)
            model.look()
            self.assert_post(post, model.stance, model.count)
        self.assertEqual(post.waits(), model.waits)
        self.assertEqual(post.got(), model.got)

    def both(self, choice, votes, frames):
        post = Post(choice, votes)
        model = Model(choice, votes)
        for name, data in frames:
            post.hand(name, data)
            model.waits.append((name, data))
        return post, model

    def test_bits_of_any_kind(self):
        for seed in range(150):
            votes = VOTES[seed % 3]
            frames = FRAMES[seed % 40:seed % 40 + seed % 5]
            post, model = self.both((seed % 4, seed % 2), votes, frames)
            for number in some_numbers(seed, 40, 60):
                self.run_both(post, model, [number >> place & 1 for place in range(8)])

    def test_mostly_what_it_says_itself(self):
        for seed in range(240):
            votes = VOTES[seed % 3]
            post, model = self.both((seed % 2, 0), votes, FRAMES[seed % 40:seed % 40 + 4])
            wrong = {number % 400 for number in some_numbers(seed, 1 + seed % 11, 40)}
            for turn in range(400):
                answered = post.stance() == ("tail speaks", 1)
                bit = 0 if answered else post.says()
                self.run_both(post, model, [1 - bit if turn in wrong else bit])

    def test_frames_of_others_with_wrong_bits(self):
        for seed in range(240):
            votes = VOTES[seed % 3]
            post, model = self.both((seed % 4, 0), votes, [])
            numbers = some_numbers(seed, 30, 40)
            bits = []
            for frame in FRAMES[seed % 40:seed % 40 + 5]:
                bits += wire_of(*frame) + TAIL + [1] * votes + [1] * 3 + [1] * (numbers[len(bits) % 30] % 3)
            for number in numbers[:seed % 7]:
                bits[number % len(bits)] ^= 1
            self.run_both(post, model, bits)

    def test_against_a_lesser_name(self):
        for seed in range(120):
            number = some_numbers(seed, 1, 40)[0]
            own = 1 + number % 255
            other = number // 256 % own
            post, model = self.both(ALL, 3, [(own, [seed]), (own, [])])
            bits = (wire_of(other, [seed, 1]) + TAIL + [1] * 6) * 2
            if seed % 2:
                bits[number % len(bits)] ^= 1
            self.run_both(post, model, bits)

    def test_a_frame_said_and_done_turn_by_turn(self):
        post = Post(ALL, 3)
        post.hand(5, [6])
        wire = wire_of(5, [6])
        said = []
        words = []
        for turn in range(len(wire) + 12 + 4):
            said.append(post.says())
            words.append(post.hear(0 if post.stance() == ("tail speaks", 1) else post.says()))
        self.assertEqual(said, wire + [1] * 12 + [1] * 4)
        self.assertEqual(words, ["begins"] + [""] * (len(wire) + 10) + ["done"] + [""] * 4)
        self.assert_post(post, ("free", 1), 0)
        self.assertEqual((post.waits(), post.got()), ([], []))

    def test_a_frame_read_and_taken_turn_by_turn(self):
        post = Post(ALL, 5)
        wire = wire_of(5, [6])
        said = []
        words = []
        for bit in wire + TAIL + [1] * 5 + [1] * 4:
            said.append(post.says())
            words.append(post.hear(bit))
        self.assertEqual(said, [1] * (len(wire) + 1) + [0] + [1] * 16)
        self.assertEqual(words, [""] * (len(wire) + 13) + ["takes"] + [""] * 4)
        self.assertEqual(post.got(), [(5, [6])])

    def test_flagged_and_said_again_turn_by_turn(self):
        post = Post(ALL, 3)
        post.hand(219, [])
        wire = wire_of(219, [])
        words = tell(post, wire[:20] + [1 - wire[20]])
        self.assertEqual(words, ["begins"] + [""] * 19 + ["fault"])
        self.assertEqual([(post.says(), post.hear(0)) for _ in range(6)], [(0, "")] * 6)
        self.assertEqual([(post.says(), post.hear(0)) for _ in range(3)], [(1, "")] * 3)
        self.assertEqual([(post.says(), post.hear(1)) for _ in range(4)], [(1, "")] * 4)
        self.assertEqual(tell(post, wire + TAIL + [1] * 3), ["begins"] + [""] * (len(wire) + 10) + ["done"])
        self.assert_post(post, ("rests", 3), 7)

    def test_quiet_and_then_off_turn_by_turn(self):
        post = Post(ALL, 3)
        post.hand(219, [])
        for count in (8, 16):
            self.assertEqual(post.hear(1), "fault")
            self.assert_post(post, ("flag", 6), count)
            tell(post, [1] * 10)
        for since in range(8):
            self.assert_post(post, ("free", since), 16)
            self.assertEqual((post.says(), post.hear(1)), (1, ""))
        self.assertEqual((post.says(), post.hear(1)), (0, "off"))
        self.assert_off(post, 24)

    def test_two_posts_are_apart(self):
        one = Post(ALL, 3)
        other = Post(ALL, 3)
        one.hand(5, [6])
        tell(one, [0, 0, 0])
        self.assert_post(other, ("free", 0), 0)
        self.assertEqual(other.waits(), [])


if __name__ == "__main__":
    unittest.main()
