"""The tail of a frame, as its readers and its speaker say it and judge it."""

ANSWER_AT = 1
VOTES_AT = 9


class Tail:
    def __init__(self, votes, spoke):
        self.votes = votes
        self.spoke = spoke
        self.over = 0
        self.noughts = 0

    def says(self):
        return 0 if self.over == ANSWER_AT and not self.spoke else 1

    def hear(self, bit):
        at = self.over
        self.over = at + 1
        if at >= VOTES_AT:
            return self.judged_vote(bit)
        return "fault" if self.is_fault(at, bit) else "more"

    def is_fault(self, at, bit):
        if at == ANSWER_AT:
            # A one tells the speaker that nobody answered; a reader can't tell its own answer from another's.
            return self.spoke and bit == 1
        return bit == 0

    def judged_vote(self, bit):
        if bit == 0:
            self.noughts = self.noughts + 1
        if self.over < VOTES_AT + self.votes:
            return "more"
        return "refused" if self.noughts > self.votes // 2 else "taken"

    def place(self):
        return self.over


class ReadTail(Tail):
    def __init__(self, votes):
        Tail.__init__(self, votes, False)


class SpeakTail(Tail):
    def __init__(self, votes):
        Tail.__init__(self, votes, True)
