"""The stances of a post, one class each: how it is shown, what it says, and what comes of a bit that it hears.

A stance is handed the post that is in it, and answers a bit with a pair: the post's word, and the stance that follows.
"""

from bitrail.readers import Reader
from bitrail.tails import ReadTail, SpeakTail

FLAG_BITS = 6
REST_TURNS = 3
QUIET_TURNS = 8
DUEL_BITS = 9


def begun_reader():
    reader = Reader()
    reader.hear(0)
    return reader


def unless_off(post, word, stance):
    return ("off", Off()) if post.is_off() else (word, stance)


def fault_of(post, spoke):
    post.tally.fault(spoke)
    return unless_off(post, "fault", Flagging(FLAG_BITS, not spoke))


def refusal_of(post, spoke):
    post.tally.fault(spoke)
    return unless_off(post, "refuses", Settles(False))


def blame_of(post):
    post.tally.blame()
    return unless_off(post, "", Settles(False))


class Free:
    def __init__(self, since):
        self.since = since

    def shown(self):
        return ("free", self.since)

    def says(self, post):
        if not post.has_frame():
            return 1
        return 1 if post.is_quiet() and self.since < QUIET_TURNS else 0

    def step(self, bit, post):
        begins = self.says(post) == 0
        if begins and bit == 0:
            return ("begins", Speaks(post.foremost_wire(), begun_reader(), 1))
        if begins:
            return fault_of(post, True)
        if bit == 0:
            return ("", Reads(begun_reader(), 1))
        return ("", Free(self.since + 1))


class Speaks:
    def __init__(self, wire, reader, many):
        self.wire = wire
        self.reader = reader
        self.many = many

    def shown(self):
        return ("speaks", self.many)

    def says(self, post):
        return self.wire[self.many]

    def step(self, bit, post):
        own = self.wire[self.many]
        is_duel = len(self.reader.plain()) < DUEL_BITS
        if self.reader.hear(bit) == "six":
            return fault_of(post, True)
        if own == 1 and bit == 0 and is_duel:
            return ("loses", Reads(self.reader, self.many + 1))
        if bit != own:
            return fault_of(post, True)
        if self.many + 1 == len(self.wire):
            return ("", InTail(SpeakTail(post.votes), None))
        return ("", Speaks(self.wire, self.reader, self.many + 1))


class Reads:
    def __init__(self, reader, many):
        self.reader = reader
        self.many = many

    def shown(self):
        return ("reads", self.many)

    def says(self, post):
        return 1

    def step(self, bit, post):
        answer = self.reader.hear(bit)
        if answer == "more":
            return ("", Reads(self.reader, self.many + 1))
        if answer == "whole":
            return ("", InTail(ReadTail(post.votes), self.reader.frame()))
        return fault_of(post, False)


class InTail:
    def __init__(self, tail, found):
        self.tail = tail
        self.found = found

    def shown(self):
        return ("tail speaks" if self.tail.spoke else "tail reads", self.tail.place())

    def says(self, post):
        return self.tail.says()

    def step(self, bit, post):
        answer = self.tail.hear(bit)
        if answer == "more":
            return ("", self)
        if answer == "fault":
            return fault_of(post, self.tail.spoke)
        if answer == "refused":
            return refusal_of(post, self.tail.spoke)
        post.tally.good()
        if self.tail.spoke:
            post.drop_foremost()
            return ("done", Rests(REST_TURNS))
        post.hand_up(self.found)
        return ("takes", Rests(REST_TURNS))


class Flagging:
    def __init__(self, left, may_blame):
        self.left = left
        self.may_blame = may_blame

    def shown(self):
        return ("flag", self.left)

    def says(self, post):
        return 0

    def step(self, bit, post):
        if self.left == 1:
            return ("", Settles(self.may_blame))
        return ("", Flagging(self.left - 1, self.may_blame))


class Settles:
    def __init__(self, may_blame):
        self.may_blame = may_blame

    def shown(self):
        return ("settles", 0)

    def says(self, post):
        return 1

    def step(self, bit, post):
        if bit == 1:
            return ("", Rests(REST_TURNS))
        # Any later turn of settling is another one than the first behind the flag, and blames nobody.
        if self.may_blame:
            return blame_of(post)
        return ("", self)


class Rests:
    def __init__(self, left):
        self.left = left

    def shown(self):
        return ("rests", self.left)

    def says(self, post):
        return 1

    def step(self, bit, post):
        if bit == 0:
            return fault_of(post, False)
        return ("", Free(0) if self.left == 1 else Rests(self.left - 1))


class Off:
    def shown(self):
        return ("off", 0)

    def says(self, post):
        return 1

    def step(self, bit, post):
        return ("", self)
