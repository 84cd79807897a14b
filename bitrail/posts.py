"""A post on the rail: what waits to be said, what was handed up, the count, and the stance."""

from bitrail.bits import are_bytes
from bitrail.counts import Count
from bitrail.errors import NoPost
from bitrail.frames import check_frame, wire_of
from bitrail.names import is_wanted
from bitrail.stances import Free

VOTES = (1, 3, 5)


def check_votes(votes):
    if votes not in VOTES:
        raise NoPost("votes other than 1, 3 or 5")


def check_choice(choice):
    if not are_bytes(choice):
        raise NoPost("a mask or match that is no byte")


def copies(frames):
    return [(frame[0], list(frame[1])) for frame in frames]


class Post:
    def __init__(self, choice, votes):
        check_choice(choice)
        check_votes(votes)
        self.choice = choice
        self.votes = votes
        self.waiting = []
        self.handed_up = []
        self.tally = Count()
        self.now = Free(0)

    def hand(self, name, data):
        check_frame(name, data)
        self.waiting.append((name, list(data)))

    def says(self):
        return self.now.says(self)

    def hear(self, bit):
        told = self.now.step(bit, self)
        self.now = told[1]
        return told[0]

    def stance(self):
        return self.now.shown()

    def waits(self):
        return copies(self.waiting)

    def got(self):
        return copies(self.handed_up)

    def faults(self):
        return self.tally.number()

    def is_quiet(self):
        return self.tally.is_quiet()

    def is_off(self):
        return self.tally.is_off()

    # The rest is for the stances, which act upon their post through these alone.

    def has_frame(self):
        return len(self.waiting) > 0

    def foremost_wire(self):
        return wire_of(self.waiting[0][0], self.waiting[0][1])

    def drop_foremost(self):
        self.waiting.pop(0)

    def hand_up(self, frame):
        if is_wanted(self.choice, frame[0]):
            self.handed_up.append(frame)
