"""Putting bits on a wire, with the other bit behind each five alike ones, and reading them back."""

from bitrail.errors import NoWire

MOST_ALIKE = 5


# The alike bits at the end of a wire, kept apart since a reader, too, is told its wire bit by bit.
class Streak:
    def __init__(self):
        self.last = None
        self.alike = 0

    def lengthen(self, bit):
        self.alike = self.alike + 1 if bit == self.last else 1
        self.last = bit

    def is_full(self):
        return self.alike == MOST_ALIKE

    def is_too_long(self):
        return self.alike > MOST_ALIKE


def put_in(bits):
    wire = []
    streak = Streak()
    for bit in bits:
        wire.append(bit)
        streak.lengthen(bit)
        if streak.is_full():
            wire.append(1 - bit)
            streak.lengthen(1 - bit)
    return wire


def taken_out(wire):
    bits = []
    streak = Streak()
    for place, bit in enumerate(wire):
        is_put_in = streak.is_full()
        streak.lengthen(bit)
        if streak.is_too_long():
            raise NoWire(place)
        if not is_put_in:
            bits.append(bit)
    if streak.is_full():
        raise NoWire(len(wire))
    return bits
