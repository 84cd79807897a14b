"""Bits: written of numbers and read as numbers, drawn as texts and read back, changed, and their runs."""

from bitrail.errors import NoBits

HIGHEST_BYTE = 255


def bits_of(number, many):
    if number < 0 or number >> many != 0:
        raise NoBits("a number that is not written in so many bits")
    return [(number >> (many - 1 - place)) & 1 for place in range(many)]


def number_of(bits):
    number = 0
    for bit in bits:
        number = number * 2 + bit
    return number


def drawn(bits):
    return "".join([str(bit) for bit in bits])


def read_bits(text):
    return [bit_of_sign(sign) for sign in text]


def bit_of_sign(sign):
    # int would also take signs that are no bit, so each of the two is asked for by itself.
    if sign == "0":
        return 0
    if sign == "1":
        return 1
    raise NoBits("a sign that is neither 0 nor 1")


def changed(bits, places):
    told = list(bits)
    for place in places:
        # A place below 0 would be counted from the end.
        if place < 0 or place >= len(told):
            raise NoBits("a place that is none of these bits'")
        told[place] = 1 - told[place]
    return told


def longest_run(bits):
    longest = 0
    run = 0
    last = None
    for bit in bits:
        run = run + 1 if bit == last else 1
        last = bit
        longest = max(longest, run)
    return longest


def are_bytes(numbers):
    return all([0 <= number <= HIGHEST_BYTE for number in numbers])
