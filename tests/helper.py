"""What the tests share: calls that watch what is handed in, and numbers made by a fixed rule."""

import copy
import unittest

from bitrail import errors
from bitrail.posts import Post

OF_TEXT = ("NoBits", "NoName", "NoKey", "NoFrame", "NoPost", "NoThing", "NoStrip", "NoRail")
OF_NUMBER = ("NoWire", "NoRow")
REFUSALS = OF_TEXT + OF_NUMBER


def some_numbers(seed, many, most_bits):
    """Numbers of 0 to most_bits bits, the same ones for the same seed."""
    state = seed
    told = []
    for _ in range(many):
        number = 0
        for _ in range(most_bits // 32 + 2):
            state = (state * 6364136223846793005 + 1442695040888963407) % 2 ** 64
            number = number << 32 | state >> 32
        told.append(number % 2 ** ((state >> 40) % (most_bits + 1)))
    return told


def some_bits(seed, many):
    number = 0
    for part in some_numbers(seed, 2 * many // 8 + 2, 64):
        number = number * 2 ** 17 + part
    return [int(sign) for sign in format(number, f"0{many}b")[-many:]] if many else []


def some_thing(seed, many):
    return [number % 256 for number in some_numbers(seed, many, 40)]


# Whole numbers that are no byte and no name.
FAR = (-1, -2, -255, -256, -(10 ** 99), 256, 257, 511, 65535, 10 ** 99)
FRAMES = [
    (0, []),
    (255, []),
    (1, [0]),
    (128, [255]),
    (31, [31]),
    (0, [0] * 7),
    (255, [255] * 7),
    (170, [85, 170, 85]),
    (77, [1, 2, 3, 4, 5, 6, 7]),
    (248, [0, 255, 0, 255]),
] + [
    (number % 256, [one % 256 for one in some_numbers(number % 997, number // 256 % 8, 30)])
    for number in some_numbers(18, 40, 40)
]


def tell(post, bits):
    """The words that the post answers to these bits."""
    return [post.hear(bit) for bit in bits]


def with_faults(count, choice=(0, 0), votes=3):
    """A free post without frames whose count is this, by so many faults of one who did not speak."""
    post = Post(choice, votes)
    for _ in range(count):
        tell(post, [0] * 6 + [1] * 10)
    return post


class RailCase(unittest.TestCase):
    def told(self, call, *handed):
        """What the call tells; what was handed in must be as it was."""
        before = copy.deepcopy(handed)
        told = call(*handed)
        self.assertEqual(handed, before)
        return told

    def assert_refused(self, name, call, *handed):
        before = copy.deepcopy(handed)
        with self.assertRaises(ValueError) as caught:
            call(*handed)
        self.assert_alone(caught.exception, name)
        self.assertEqual(handed, before)

    def assert_alone(self, error, name):
        """The error is taken by its own name, by the base and ValueError, and by no other refusal."""
        self.assertIsInstance(error, errors.RailError)
        self.assertIsInstance(error, ValueError)
        taken = [other for other in REFUSALS if isinstance(error, getattr(errors, other))]
        self.assertEqual(taken, [name])

    def assert_bits(self, told, expected):
        self.assertIs(type(told), list)
        self.assertEqual(told, expected)
        self.assertTrue(all(type(bit) is int for bit in told))

    def assert_number(self, told, expected):
        self.assertIs(type(told), int)
        self.assertEqual(told, expected)

    def assert_own_list(self, call, *handed):
        """A told list is not the one handed in, and a change of either changes nothing told later."""
        first = self.told(call, *handed)
        expected = copy.deepcopy(first)
        for thing in handed:
            self.assertIsNot(first, thing)
        second = self.told(call, *handed)
        self.assertIsNot(first, second)
        first.append(7)
        first[0] = 9
        self.assertEqual(second, expected)
        self.assertEqual(self.told(call, *handed), expected)
        for thing in handed:
            if isinstance(thing, list):
                thing.clear()
        self.assertEqual(second, expected)
