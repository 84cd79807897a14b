"""A reader: it reads a frame's wire bit by bit, from the first nought on."""

from bitrail.checks import rest_of
from bitrail.frames import is_complete, read_frame
from bitrail.putting import Streak


class Reader:
    def __init__(self):
        self.streak = Streak()
        self.kept = []
        self.answer = "more"

    def hear(self, bit):
        is_put_in = self.streak.is_full()
        self.streak.lengthen(bit)
        if not is_put_in:
            self.kept.append(bit)
        self.answer = self.judged()
        return self.answer

    def judged(self):
        if self.streak.is_too_long():
            return "six"
        # Behind five alike bits one put in is still to come, and it belongs to the frame, too.
        if self.streak.is_full() or not is_complete(self.kept):
            return "more"
        return "whole" if rest_of(self.kept) == 0 else "bad"

    def plain(self):
        return list(self.kept)

    def frame(self):
        return read_frame(self.kept) if self.answer == "whole" else None
