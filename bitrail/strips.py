"""Strips: bits drawn with the turns of their first ones ahead, and read back."""

from bitrail.errors import NoStrip

STRIP_BITS = 40
FIGURES = 6
SIGNS = "_-"


def strips(bits, first):
    return [strip_of(bits[start:start + STRIP_BITS], first + start) for start in range(0, len(bits), STRIP_BITS)]


def strip_of(bits, turn):
    return str(turn).zfill(FIGURES) + " " + "".join([SIGNS[bit] for bit in bits])


def read_strips(some):
    if len(some) == 0:
        return (0, [])
    first = turn_of(some[0])
    bits = []
    for number, strip in enumerate(some):
        if turn_of(strip) != first + STRIP_BITS * number:
            raise NoStrip("turns that do not go on")
        signs = signs_of(strip)
        if number < len(some) - 1 and len(signs) != STRIP_BITS:
            raise NoStrip("a strip but the last one that has not forty signs")
        bits.extend([SIGNS.index(sign) for sign in signs])
    return (first, bits)


def turn_of(strip):
    figures = strip[:FIGURES]
    if len(figures) < FIGURES or not all([sign in "0123456789" for sign in figures]):
        raise NoStrip("another number of figures")
    return int(figures)


def signs_of(strip):
    if strip[FIGURES:FIGURES + 1] != " ":
        raise NoStrip("no blank behind the figures")
    signs = strip[FIGURES + 1:]
    if not 1 <= len(signs) <= STRIP_BITS:
        raise NoStrip("no signs, or more than forty")
    if not all([sign in SIGNS for sign in signs]):
        raise NoStrip("another sign")
    return signs
