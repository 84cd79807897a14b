"""bitrail.rails: points 26 and 27, and over them point 2."""

import copy
import unittest

from bitrail.ears import ear
from bitrail.errors import NoFrame, NoName, NoPost
from bitrail.frames import wire_of
from bitrail.posts import Post
from bitrail.rails import Rail
from tests.helper import FAR, RailCase, some_numbers

ALL = (0, 0)
NO_POSTS = (-1, -2, -3, -(10 ** 99), 3, 4, 5, 10 ** 99)
QUESTIONS = ("said", "heard", "stance", "waits", "got", "faults", "is_quiet", "is_off")


def state_of(rail, many):
    told = [rail.turns(), rail.bits(), rail.events()]
    return told + [getattr(rail, question)(post) for question in QUESTIONS for post in range(many)]


def three_posts(votes=3):
    rail = Rail([ALL, (1, 1), ALL], votes)
    rail.hand(0, 9, [1, 2])
    rail.hand(1, 8, [])
    rail.hand(2, 12, [3])
    rail.hand(1, 7, [4])
    return rail


def put_off(rail):
    """Post 0 hears wrong in each turn in which it is free."""
    while not rail.is_off(0):
        rail.turn([0] if rail.stance(0)[0] == "free" else [])


class ByHand:
    """The same posts, led turn by turn as the document tells it."""

    def __init__(self, choices, votes):
        self.posts = [Post(choice, votes) for choice in choices]
        self.bits = []
        self.said = [[] for _ in choices]
        self.heard = [[] for _ in choices]
        self.events = []

    def turn(self, wrong):
        says = [post.says() for post in self.posts]
        bit = min(says)
        for number, post in enumerate(self.posts):
            heard = bit ^ (number in wrong)
            self.said[number].append(says[number])
            self.heard[number].append(heard)
            word = post.hear(heard)
            if word:
                self.events.append((len(self.bits), number, word))
        self.bits.append(bit)

    def state(self):
        told = [len(self.bits), self.bits, self.events] + self.said + self.heard
        for question in QUESTIONS[2:]:
            told += [getattr(post, question)() for post in self.posts]
        return told


class MadeTest(RailCase):
    def test_one_to_five_posts(self):
        for many in range(1, 6):
            for votes in (1, 3, 5):
                rail = self.told(Rail, [(0, number) for number in range(many)], votes)
                expected = [0, [], []] + [[]] * (2 * many) + [("free", 0)] * many + [[]] * (2 * many)
                self.assertEqual(state_of(rail, many), expected + [0] * many + [False] * (2 * many))
                self.assert_refused("NoPost", rail.stance, many)

    def test_no_posts_and_too_many(self):
        for many in (0, 6, 7, 100):
            self.assert_refused("NoPost", Rail, [ALL] * many, 3)

    def test_other_votes(self):
        for votes in (0, 2, 4, 6, 7, -1, -3, 10 ** 99):
            self.assert_refused("NoPost", Rail, [ALL, ALL], votes)

    def test_a_mask_or_match_that_is_no_byte(self):
        for number in FAR:
            for choice in ((number, 0), (0, number)):
                for choices in ([choice], [choice, ALL], [ALL, ALL, choice], [ALL] * 4 + [choice]):
                    self.assert_refused("NoPost", Rail, choices, 3)

    def test_each_post_has_its_own_choice(self):
        choices = [ALL, (1, 1), (1, 0), (255, 9)]
        rail = Rail(choices, 1)
        choices.clear()
        rail.hand(0, 9, [1])
        rail.hand(0, 8, [2])
        rail.run(200, None)
        self.assertEqual([rail.got(post) for post in range(4)], [[], [(9, [1])], [(8, [2])], [(9, [1])]])

    def test_the_rails_votes_are_the_posts(self):
        for votes in (1, 3, 5):
            rail = Rail([ALL, ALL], votes)
            rail.hand(0, 9, [1])
            turns = len(wire_of(9, [1])) + 9 + votes
            rail.run(turns, None)
            self.assertEqual(rail.events(), [(0, 0, "begins"), (turns - 1, 0, "done"), (turns - 1, 1, "takes")])


class TurnTest(RailCase):
    def test_the_bit_is_the_least_one(self):
        rail = three_posts()
        bits = []
        for turn in range(250):
            self.assert_number(rail.turns(), turn)
            bits.append(rail.turn([]))
            self.assertEqual(bits[-1], min(rail.said(post)[-1] for post in range(3)))
            self.assertEqual([rail.heard(post)[-1] for post in range(3)], [bits[-1]] * 3)
        self.assert_bits(rail.bits(), bits)

    def test_none_is_nobody(self):
        rail = three_posts()
        other = three_posts()
        self.assertEqual([rail.turn(None) for _ in range(60)], other.run(60, None))
        self.assertEqual(state_of(rail, 3), state_of(other, 3))

    def test_wrong_posts_hear_the_other_bit(self):
        for wrong in ([0], [1], [2], [0, 2], [2, 1, 0]):
            rail = three_posts()
            bit = self.told(rail.turn, wrong)
            self.assertEqual(bit, 0)
            self.assertEqual([rail.heard(post) for post in range(3)], [[int(post in wrong)] for post in range(3)])
            self.assertEqual(rail.bits(), [0])

    def test_a_post_told_twice_hears_wrong_as_one_told_once(self):
        for wrong in ([1, 1], [1, 1, 1], [2, 1, 2, 1]):
            rail = three_posts()
            other = three_posts()
            for _ in range(3):
                self.told(rail.turn, wrong)
                other.turn(sorted(set(wrong)))
            self.assertEqual(state_of(rail, 3), state_of(other, 3))

    def test_a_post_that_there_is_not(self):
        rail = three_posts()
        rail.run(20, None)
        before = state_of(rail, 3)
        for post in NO_POSTS:
            for wrong in ([post], [0, post], [post, 1], [0, 1, 2, post]):
                self.assert_refused("NoPost", rail.turn, wrong)
                self.assertEqual(state_of(rail, 3), before)
        rail.turn([0])
        self.assertEqual(rail.turns(), 21)


class RunTest(RailCase):
    def test_some_turns_without_wrong_bits(self):
        rail = three_posts()
        other = three_posts()
        for turns in (0, 1, 2, 40, 0, 100):
            self.assert_bits(rail.run(turns, None), [other.turn([]) for _ in range(turns)])
        self.assertEqual(state_of(rail, 3), state_of(other, 3))
        self.assertEqual(rail.turns(), 143)

    def test_an_ear(self):
        wrong = [(0, 3), (2, 30), (1, 30), (1, 75), (2, 120), (9, 4), (1, 20000)]
        rail = three_posts()
        other = three_posts()
        heard = ear(wrong)
        for turns in (3, 1, 60, 86):
            self.assertEqual(
                rail.run(turns, heard),
                [other.turn([post for post in range(3) if (post, other.turns()) in wrong]) for _ in range(turns)],
            )
        self.assertEqual(state_of(rail, 3), state_of(other, 3))
        self.assertEqual(rail.heard(0)[3], 1 - rail.bits()[3])

    def test_a_function_of_ones_own(self):
        rail = three_posts()
        other = three_posts()
        bits = rail.run(150, lambda post, turn, bit: 1 if post == turn % 7 else bit)
        self.assertEqual(bits, [other.run(1, lambda post, turn, bit: 1 if post == turn % 7 else bit)[0]
                                for _ in range(150)])
        for turn in range(150):
            for post in range(3):
                self.assertEqual(rail.heard(post)[turn], 1 if post == turn % 7 else bits[turn])
        self.assertEqual(state_of(rail, 3), state_of(other, 3))

    def test_how_a_function_is_asked(self):
        rail = three_posts()
        asked = []

        def hearing(post, turn, bit):
            asked.append((post, turn, bit))
            return bit

        bits = rail.run(5, hearing) + [rail.turn([])] + rail.run(70, hearing)
        expected = [(post, turn, bits[turn]) for turn in range(76) if turn != 5 for post in range(3)]
        self.assertEqual(asked, expected)

    def test_a_function_is_asked_for_those_too_who_are_off(self):
        rail = Rail([ALL, ALL], 1)
        rail.hand(0, 5, [])
        put_off(rail)
        first = rail.turns()
        asked = []

        def hearing(post, turn, bit):
            asked.append((post, turn, bit))
            return 1 - bit if post == 0 else bit

        bits = rail.run(9, hearing)
        self.assertEqual(asked, [(post, first + turn, bits[turn]) for turn in range(9) for post in range(2)])
        self.assertEqual(rail.heard(0)[first:], [1 - bit for bit in bits])
        self.assertEqual(rail.said(0)[first:], [1] * 9)
        self.assertEqual(rail.stance(0), ("off", 0))

    def test_no_function_is_asked_without_turns(self):
        rail = three_posts()
        self.assertEqual(rail.run(0, lambda post, turn, bit: self.fail()), [])
        self.assertEqual(rail.turns(), 0)

    def test_as_the_posts_by_hand(self):
        for seed in range(60):
            many = 1 + seed % 5
            votes = (1, 3, 5)[seed % 3]
            choices = [(number % 4, number % 2) for number in some_numbers(seed, many, 20)]
            rail = Rail(choices, votes)
            hands = ByHand(choices, votes)
            for number in some_numbers(seed + 1, 4, 40):
                post = number % many
                name = number // 8 % 32 * 8 + post
                rail.hand(post, name, [name, seed])
                hands.posts[post].hand(name, [name, seed])
            wrong = [(number % many, number // many % 400) for number in some_numbers(seed + 2, seed % 9, 40)]
            for turn in range(400):
                hands.turn([post for post, at in wrong if at == turn])
            rail.run(400, ear(wrong))
            self.assertEqual(state_of(rail, many), hands.state())

    def test_twenty_thousand_turns(self):
        rail = Rail([ALL], 1)
        rail.run(20000, None)
        self.assertEqual((rail.turns(), rail.stance(0)), (20000, ("free", 20000)))
        self.assertEqual(rail.bits(), [1] * 20000)


class KeptTest(RailCase):
    def test_events_in_the_order_of_turns_and_posts(self):
        rail = three_posts()
        rail.run(60, ear([(2, 31)]))
        # The wire has 29 bits: post 2 hears wrong at place 2 of the tail, and the others hear its flag right behind.
        self.assertEqual(rail.events(), [
            (0, 0, "begins"), (0, 1, "begins"), (0, 2, "begins"), (7, 2, "loses"), (9, 0, "loses"),
            (31, 2, "fault"), (32, 0, "fault"), (32, 1, "fault"),
            (43, 0, "begins"), (43, 1, "begins"), (43, 2, "begins"), (50, 2, "loses"), (52, 0, "loses"),
        ])
        self.assertEqual(rail.bits()[29:43], [1, 0, 1] + [0] * 7 + [1] * 4)
        self.assertEqual(rail.said(2)[29:43], [1, 0, 1] + [0] * 6 + [1] * 5)
        self.assertEqual([rail.faults(post) for post in range(3)], [1, 8, 9])
        self.assertEqual([event[:2] for event in rail.events()], sorted(event[:2] for event in rail.events()))
        self.assertTrue(all(type(event) is tuple for event in rail.events()))
        self.assertNotIn("", [event[2] for event in rail.events()])

    def test_a_duel_of_three(self):
        rail = Rail([ALL] * 3, 3)
        rail.hand(0, 12, [])
        rail.hand(1, 8, [])
        rail.hand(2, 9, [])
        done = len(wire_of(8, [])) + 12 - 1
        rail.run(done + 1, None)
        self.assertEqual(rail.events(), [
            (0, 0, "begins"), (0, 1, "begins"), (0, 2, "begins"), (7, 0, "loses"), (9, 2, "loses"),
            (done, 0, "takes"), (done, 1, "done"), (done, 2, "takes"),
        ])

    def test_all_words(self):
        rail = Rail([ALL] * 3, 1)
        rail.hand(0, 12, [])
        rail.hand(1, 8, [])
        first = len(wire_of(8, [])) + 9
        rail.run(first, None)
        rail.turn([0])
        rail.run(60, None)
        rail.turn([1, 1])
        rail.run(200, None)
        put_off(rail)
        words = {event[2] for event in rail.events()}
        self.assertEqual(words, {"begins", "loses", "fault", "refuses", "done", "takes", "off"})
        self.assertIn((first, 0, "refuses"), rail.events())

    def test_questions_tell_lists_that_are_the_askers_own(self):
        rail = three_posts()
        rail.run(200, None)
        before = copy.deepcopy(state_of(rail, 3))
        for question in ("said", "heard", "waits", "got"):
            for post in range(3):
                getattr(rail, question)(post).append(7)
                for told in getattr(rail, question)(post)[:1]:
                    if isinstance(told, tuple):
                        told[1].append(300)
        for told in (rail.bits(), rail.events(), rail.run(0, None)):
            told.append(7)
        self.assertEqual(state_of(rail, 3), before)
        early = state_of(rail, 3)
        rail.hand(0, 9, [7])
        rail.run(100, None)
        self.assertEqual(early, before)

    def test_waits_and_got_are_new_each_time(self):
        rail = Rail([ALL, ALL], 1)
        data = [1, 2]
        rail.hand(0, 9, data)
        data.append(3)
        rail.hand(0, 9, [5])
        rail.waits(0)[0][1].append(4)
        self.assertEqual(rail.waits(0), [(9, [1, 2]), (9, [5])])
        rail.run(150, None)
        rail.got(1)[0][1].append(4)
        self.assertEqual(rail.got(1), [(9, [1, 2]), (9, [5])])

    def test_a_post_that_there_is_not(self):
        rail = three_posts()
        rail.run(30, None)
        before = state_of(rail, 3)
        for post in NO_POSTS:
            for question in QUESTIONS:
                self.assert_refused("NoPost", getattr(rail, question), post)
            self.assert_refused("NoPost", rail.hand, post, 100, [])
        self.assertEqual(state_of(rail, 3), before)


class HandTest(RailCase):
    def test_frames_are_handed(self):
        rail = Rail([ALL, ALL], 3)
        for name, data in ((9, []), (9, [1]), (0, [2] * 7), (255, [])):
            self.assertIsNone(self.told(rail.hand, 0, name, data))
        self.assertEqual(rail.waits(0), [(9, []), (9, [1]), (0, [2] * 7), (255, [])])
        self.assertEqual(rail.waits(1), [])

    def test_a_name_belongs_to_one_post(self):
        rail = Rail([ALL] * 3, 3)
        rail.hand(1, 9, [])
        rail.hand(0, 0, [])
        before = state_of(rail, 3)
        for post in (0, 2):
            self.assert_refused("NoName", rail.hand, post, 9, [1])
        for post in (1, 2):
            self.assert_refused("NoName", rail.hand, post, 0, [1])
        self.assertEqual(state_of(rail, 3), before)
        rail.hand(1, 9, [1])
        rail.hand(0, 0, [1])
        self.assertEqual(rail.waits(1), [(9, []), (9, [1])])

    def test_it_belongs_to_it_behind_the_frame_too(self):
        rail = Rail([ALL] * 2, 1)
        rail.hand(1, 9, [])
        rail.run(100, None)
        self.assertEqual(rail.waits(1), [])
        self.assert_refused("NoName", rail.hand, 0, 9, [])
        rail.hand(1, 9, [])

    def test_what_is_refused_makes_no_name_belong(self):
        rail = Rail([ALL] * 3, 3)
        self.assert_refused("NoFrame", rail.hand, 0, 9, [256])
        self.assert_refused("NoFrame", rail.hand, 0, 9, [0] * 8)
        self.assert_refused("NoPost", rail.hand, 3, 9, [])
        rail.hand(1, 9, [])
        self.assert_refused("NoName", rail.hand, 0, 9, [])
        self.assertEqual([rail.waits(post) for post in range(3)], [[], [(9, [])], []])

    def test_what_is_refused_first(self):
        rail = Rail([ALL] * 3, 3)
        rail.hand(1, 9, [])
        before = state_of(rail, 3)
        for post in NO_POSTS:
            for name, data in ((9, []), (256, []), (9, [256]), (5, [])):
                self.assert_refused("NoPost", rail.hand, post, name, data)
        for name in FAR:
            self.assert_refused("NoFrame", rail.hand, 0, name, [])
        for data in ([256], [-1], [0] * 8):
            self.assert_refused("NoFrame", rail.hand, 0, 9, data)
            self.assert_refused("NoFrame", rail.hand, 1, 9, data)
        self.assert_refused("NoName", rail.hand, 0, 9, [])
        self.assertEqual(state_of(rail, 3), before)
        for error, handed in ((NoPost, (3, 9, [256])), (NoFrame, (0, 9, [256])), (NoName, (0, 9, [255]))):
            with self.assertRaises(error):
                rail.hand(*handed)

    def test_frames_handed_between_turns_and_to_one_who_is_off(self):
        rail = Rail([ALL] * 2, 1)
        rail.hand(0, 9, [])
        put_off(rail)
        rail.hand(0, 9, [4])
        self.assertEqual(rail.waits(0), [(9, []), (9, [4])])
        rail.run(100, None)
        self.assertEqual(rail.waits(0), [(9, []), (9, [4])])
        self.assertEqual(rail.got(1), [])

    def test_two_rails_are_apart(self):
        one = Rail([ALL] * 2, 1)
        other = Rail([ALL] * 2, 1)
        one.hand(0, 9, [])
        one.run(10, None)
        other.hand(1, 9, [])
        self.assertEqual((other.turns(), other.waits(0), other.stance(0)), (0, [], ("free", 0)))


if __name__ == "__main__":
    unittest.main()
