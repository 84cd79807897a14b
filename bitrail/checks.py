"""The check: the key, the rests of bits by it, and which changes of bits it does not see."""

from bitrail.bits import bits_of, number_of
from bitrail.keys import divided

KEY = 64647
CHECK_BITS = 15


def rest_of(bits):
    return divided(number_of(bits), KEY)[1]


def check_of(bits):
    # With noughts in the check's place the rest is what is too much, and a sum with itself is 0.
    return bits_of(rest_of(list(bits) + [0] * CHECK_BITS), CHECK_BITS)


def rests_of(many):
    told = []
    rest = 1
    while len(told) < many:
        told.append(rest)
        rest = next_rest(rest)
    return told


def next_rest(rest):
    doubled = rest << 1
    return doubled ^ KEY if doubled >> CHECK_BITS == 1 else doubled


def is_unseen(places):
    rests = rests_of(max(places, default=-1) + 1)
    total = 0
    for place in places:
        total = total ^ rests[place]
    return total == 0
