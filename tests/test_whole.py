"""Points 1, 3, 4, 5 and 6: what is promised of posts on a rail, over the whole."""

import itertools
import unittest

from bitrail.ears import ear
from bitrail.frames import wire_of
from bitrail.names import is_wanted
from bitrail.posts import Post
from bitrail.rails import Rail
from tests.helper import RailCase, some_numbers, tell, with_faults

ALL = (0, 0)
TAIL = [1, 0] + [1] * 7
QUESTIONS = ("said", "heard", "stance", "waits", "got", "faults", "is_quiet", "is_off")

# Each one: choices, votes, the frames handed to each post.
CASES = [
    ([ALL, ALL], 3, [[(5, [1])], [(4, [2]), (9, [])]]),
    ([ALL, ALL], 5, [[(0, [])], []]),
    ([ALL, (1, 1), ALL], 3, [[(200, [255, 0])], [(201, [255, 0]), (3, [])], [(31, [])]]),
    ([(1, 0), ALL, ALL], 5, [[(255, [255])], [(254, [255])], [(127, [0, 0])]]),
    ([ALL] * 4, 3, [[(7, [7])], [(6, [6])], [], [(5, [5])]]),
    ([ALL, (255, 16), (240, 16), ALL, (0, 1)], 3, [[(16, [])], [(17, [])], [(18, [])], [(1, [])], [(128, [])]]),
]


def rail_of(choices, votes, frames):
    rail = Rail(choices, votes)
    for post, some in enumerate(frames):
        for name, data in some:
            rail.hand(post, name, data)
    return rail


def order_of(frames):
    """Again and again, of the foremost frames that wait, the one of the least name: as pairs (post, frame)."""
    left = [list(some) for some in frames]
    told = []
    while any(left):
        post = min((post for post in range(len(left)) if left[post]), key=lambda post: left[post][0][0])
        told.append((post, left[post].pop(0)))
    return told


def wanted_of(choices, frames):
    order = order_of(frames)
    return [[frame for post, frame in order if post != own and frame[0] & choice[0] == choice[1]]
            for own, choice in enumerate(choices)]


def bits_of_all(votes, frames):
    bits = []
    for _, frame in order_of(frames):
        bits += wire_of(*frame) + TAIL + [1] * votes + [1] * 3
    return bits


def some_case(seed):
    numbers = iter(some_numbers(seed, 60, 60))
    many = 2 + next(numbers) % 4
    choices = [((0, 0), (1, 1), (1, 0), (0, 0))[next(numbers) % 4] for _ in range(many)]
    frames = [[] for _ in range(many)]
    for _ in range(1 + next(numbers) % 4):
        post = next(numbers) % many
        name = next(numbers) % 50 * 5 + post
        frames[post].append((name, [next(numbers) % 256 for _ in range(next(numbers) % 4)]))
    return choices, (3, 5)[seed % 2], frames


class WholeCase(RailCase):
    def assert_all_went_over(self, rail, choices, frames):
        many = len(choices)
        self.assertEqual([rail.got(post) for post in range(many)], wanted_of(choices, frames))
        self.assertEqual([rail.waits(post) for post in range(many)], [[]] * many)
        self.assertFalse(any(rail.is_off(post) for post in range(many)))


class NoneHearsWrongTest(WholeCase):
    def assert_bits_of(self, choices, votes, frames):
        rail = rail_of(choices, votes, frames)
        bits = bits_of_all(votes, frames)
        self.assertEqual(rail.run(len(bits) + 40, None), bits + [1] * 40)
        self.assert_all_went_over(rail, choices, frames)
        self.assertEqual([rail.faults(post) for post in range(len(choices))], [0] * len(choices))

    def test_the_bits_of_the_rail(self):
        for choices, votes, frames in CASES:
            for some in (1, 3, 5):
                self.assert_bits_of(choices, some, frames)

    def test_the_bits_of_other_rails(self):
        for seed in range(120):
            choices, votes, frames = some_case(seed)
            self.assert_bits_of(choices, (1, 3, 5)[seed % 3], frames)

    def test_the_order_of_frames(self):
        frames = [[(9, []), (1, []), (20, [])], [(8, [1]), (10, [])], [(8 * 4, []), (0, [])]]
        self.assertEqual([frame[0] for _, frame in order_of(frames)], [8, 9, 1, 10, 20, 32, 0])
        self.assert_bits_of([ALL] * 3, 3, frames)

    def test_many_frames(self):
        frames = [[(post * 7 + number * 40 % 256, [number]) for number in range(6)] for post in range(5)]
        self.assert_bits_of([ALL] * 5, 1, frames)

    def test_without_frames(self):
        self.assert_bits_of([ALL] * 3, 3, [[], [], []])


class OneWrongBitTest(WholeCase):
    def assert_one_wrong(self, choices, votes, frames, pairs):
        rail = rail_of(choices, votes, frames)
        rail.run(len(bits_of_all(votes, frames)), None)
        done = max(turn for turn, _, word in rail.events() if word in ("done", "takes"))
        for pair in pairs:
            rail = rail_of(choices, votes, frames)
            rail.run(done + 201, ear([pair]))
            self.assertEqual([rail.got(post) for post in range(len(choices))], wanted_of(choices, frames), pair)
            self.assert_all_went_over(rail, choices, frames)
            rail.run(40, None)
            self.assert_all_went_over(rail, choices, frames)

    def test_each_post_and_each_turn(self):
        for choices, votes, frames in CASES:
            turns = len(bits_of_all(votes, frames)) + 6
            self.assert_one_wrong(choices, votes, frames, itertools.product(range(len(choices)), range(turns)))

    def test_other_rails(self):
        for seed in range(60):
            choices, votes, frames = some_case(seed)
            turns = len(bits_of_all(votes, frames)) + 20
            numbers = some_numbers(seed + 7, 20, 50)
            pairs = [(number % len(choices), number // 8 % turns) for number in numbers]
            self.assert_one_wrong(choices, votes, frames, pairs)

    def test_a_wrong_bit_while_all_rest(self):
        for turn in (0, 5, 300):
            rail = Rail([ALL] * 3, 3)
            rail.run(turn + 60, ear([(1, turn)]))
            self.assertEqual([rail.stance(post)[0] for post in range(3)], ["free"] * 3)
            rail.hand(0, 9, [8])
            rail.run(60, None)
            self.assertEqual([rail.got(post) for post in range(3)], [[], [(9, [8])], [(9, [8])]])


class AnyWrongBitsTest(WholeCase):
    def some_runs(self):
        for seed in range(150):
            choices, votes, frames = some_case(seed)
            votes = (1, 3, 5)[seed % 3]
            turns = len(bits_of_all(votes, frames)) + 100
            wrong = [(number % len(choices), number // 8 % turns) for number in some_numbers(seed, seed % 12, 50)]
            rail = rail_of(choices, votes, frames)
            rail.run(turns, ear(wrong))
            yield choices, votes, frames, rail

    def test_a_post_is_led_by_what_it_was_handed_and_heard(self):
        for choices, votes, frames, rail in self.some_runs():
            for post, choice in enumerate(choices):
                alone = Post(choice, votes)
                for frame in frames[post]:
                    alone.hand(*frame)
                said = []
                words = []
                for turn, bit in enumerate(rail.heard(post)):
                    said.append(alone.says())
                    words.append((turn, post, alone.hear(bit)))
                self.assertEqual(said, rail.said(post))
                self.assertEqual(
                    [word for word in words if word[2]], [event for event in rail.events() if event[1] == post]
                )
                for question in QUESTIONS[2:]:
                    self.assertEqual(getattr(alone, question)(), getattr(rail, question)(post))

    def test_what_a_post_takes_it_heard_whole(self):
        seen = 0
        for choices, votes, frames, rail in self.some_runs():
            for post, choice in enumerate(choices):
                turns = [turn for turn, number, word in rail.events() if (number, word) == (post, "takes")]
                ends = [self.frame_heard(rail.heard(post)[:turn + 1], votes, frames) for turn in turns]
                seen += len(ends)
                self.assertEqual([frame for frame in ends if is_wanted(choice, frame[0])], rail.got(post))
        self.assertGreater(seen, 300)

    def frame_heard(self, heard, votes, frames):
        """The frame with whose wire and tail these bits end."""
        last = heard[-votes:]
        self.assertLessEqual(last.count(0), votes // 2)
        self.assertEqual(heard[-votes - 7:-votes], [1] * 7)
        self.assertEqual(heard[-votes - 9], 1)
        ahead = heard[:-votes - 9]
        ends = [frame for some in frames for frame in some if ahead[-len(wire_of(*frame)):] == wire_of(*frame)]
        self.assertEqual(len({str(frame) for frame in ends}), 1)
        return ends[0]


class OneTailTest(WholeCase):
    """Point 5: wrong bits in the tail of one frame alone."""

    def words_behind(self, many, votes, pairs):
        rail = Rail([ALL] * many, votes)
        rail.hand(0, 9, [8])
        start = len(wire_of(9, [8]))
        rail.run(start + 9 + votes, ear([(post, start + place) for post, place in pairs]))
        words = {post: word for turn, post, word in rail.events() if turn == start + 8 + votes}
        return [words.get(post, "") in ("done", "takes") for post in range(many) if not rail.is_off(post)]

    def test_up_to_half_the_votes(self):
        for many, votes in ((2, 1), (5, 1), (2, 3), (3, 3), (5, 3), (2, 5)):
            pairs = [(post, place) for post in range(many) for place in range(9 + votes)]
            for size in range(votes // 2 + 1):
                for row in itertools.combinations(pairs, size):
                    self.assertEqual(len(set(self.words_behind(many, votes, row))), 1, row)

    def test_two_of_five_votes_of_more_posts(self):
        for many in (3, 4, 5):
            pairs = [(post, place) for post in range(many) for place in range(14)]
            numbers = some_numbers(many, 600, 50)
            for number in numbers:
                row = (pairs[number % len(pairs)], pairs[number // 100 % len(pairs)])
                self.assertEqual(len(set(self.words_behind(many, 5, row))), 1, row)

    def test_one_more_may_part_them(self):
        for many, votes in ((2, 1), (3, 3), (5, 5)):
            for post in range(many):
                row = [(post, 9 + vote) for vote in range(votes // 2 + 1)]
                self.assertEqual(self.words_behind(many, votes, row).count(False), 1)

    def words_of_counts(self, counts, votes, pairs):
        """As above, of posts that have faults counted: who is on behind it, and whether it takes the frame."""
        posts = [with_faults(count, ALL, votes) for count in counts]
        for post in posts:
            tell(post, [1] * 8)
        posts[0].hand(9, [8])
        for post in posts:
            tell(post, wire_of(9, [8]))
        words = [""] * len(posts)
        for place in range(9 + votes):
            bit = min(post.says() for post in posts)
            words = [post.hear(bit ^ ((number, place) in pairs)) for number, post in enumerate(posts)]
        return [word in ("done", "takes") for word, post in zip(words, posts) if not post.is_off()]

    def test_where_some_go_off(self):
        offs = 0
        for counts in itertools.product((0, 9, 10, 17), repeat=3):
            for post in range(3):
                for place in range(12):
                    taken = self.words_of_counts(counts, 3, [(post, place)])
                    offs += len(taken) < 3
                    self.assertLessEqual(len(set(taken)), 1, (counts, post, place))
        self.assertGreater(offs, 100)


class OneHearsWrongInEachTryTest(WholeCase):
    """Point 6."""

    def run_with(self, rail, bad, picks):
        """One bit of each try heard wrong by the bad post; told is how many tries there were."""
        tries = 0
        aim = None
        for _ in range(1500):
            word, number = rail.stance(bad)
            if word == "speaks" and number == 1:
                aim = 11 + picks[tries % len(picks)] % (len(wire_of(*rail.waits(bad)[0])) - 11)
            if word == "tail reads" and number == 0:
                aim = 2 + picks[tries % len(picks)] % 6
            hits = word in ("speaks", "tail reads") and number == aim and not (word == "speaks" and number < 11)
            if hits:
                aim = None
                tries += 1
            rail.turn([bad] if hits else [])
        return tries

    def assert_bad_post(self, choices, votes, frames, bad, picks):
        rail = rail_of(choices, votes, frames)
        tries = self.run_with(rail, bad, picks)
        many = len(choices)
        self.assertLessEqual(tries, 3)
        self.assertEqual([rail.is_off(post) for post in range(many)], [post == bad for post in range(many)])
        for post in range(many):
            if post != bad:
                self.assertEqual(rail.waits(post), [])
                for other in range(many):
                    if other not in (post, bad):
                        sent = [frame for frame in frames[other] if is_wanted(choices[post], frame[0])]
                        names = [frame[0] for frame in frames[other]]
                        self.assertEqual([frame for frame in rail.got(post) if frame[0] in names], sent)
        return tries

    def test_each_place(self):
        frames = [[(9, [1])], [(8, [2]), (30, [])], [(10, [])]]
        for votes in (1, 3, 5):
            for bad in range(3):
                for pick in range(0, 40, 3):
                    self.assert_bad_post([ALL] * 3, votes, frames, bad, [pick, pick // 2, pick + 1])

    def test_one_that_speaks_alone(self):
        frames = [[(9, [1]), (7, [])], [], []]
        for pick in range(0, 30, 4):
            self.assertEqual(self.assert_bad_post([ALL] * 3, 3, frames, 0, [pick, pick + 9]), 3)
            self.assertEqual(self.assert_bad_post([ALL] * 3, 3, frames, 1, [pick, pick + 9]), 2)

    def test_other_rails(self):
        tries = set()
        for seed in range(80):
            choices, votes, frames = some_case(seed)
            if len(choices) > 2:
                picks = [number % 997 for number in some_numbers(seed, 5, 40)]
                votes = (1, 3, 5)[seed % 3]
                tries.add(self.assert_bad_post(choices, votes, frames, seed % len(choices), picks))
        self.assertEqual(tries, {2, 3})


if __name__ == "__main__":
    unittest.main()
