"""What posts in the tail of one frame come to, where some bits are heard wrong, and by which rows they are parted."""

from bitrail.errors import NoPost
from bitrail.posts import check_votes
from bitrail.rows import rows_of
from bitrail.tails import ReadTail, SpeakTail, VOTES_AT

LEAST_POSTS = 2
MOST_POSTS = 5
FLAG_BITS = 6


# Not a post: behind its fault it says its noughts whatever it hears, and finds no other fault.
class Judge:
    def __init__(self, tail):
        self.tail = tail
        self.verdict = "more"
        self.noughts = 0

    def says(self):
        if self.verdict == "more":
            return self.tail.says()
        return 0 if self.noughts > 0 else 1

    def hear(self, bit):
        if self.verdict == "more":
            self.verdict = self.tail.hear(bit)
            self.noughts = FLAG_BITS if self.verdict == "fault" else 0
        else:
            self.noughts = self.noughts - 1


def verdicts(many, votes, wrong):
    check_tail(many, votes, wrong)
    judges = [Judge(SpeakTail(votes))] + [Judge(ReadTail(votes)) for reader in range(many - 1)]
    for place in range(VOTES_AT + votes):
        bit = min([judge.says() for judge in judges])
        for post, judge in enumerate(judges):
            judge.hear(1 - bit if (post, place) in wrong else bit)
    return [judge.verdict for judge in judges]


def check_tail(many, votes, pairs):
    if not LEAST_POSTS <= many <= MOST_POSTS:
        raise NoPost("fewer posts than two or more than five")
    check_votes(votes)
    for post, place in pairs:
        if not 0 <= post < many:
            raise NoPost("a post that there is not")
        if not 0 <= place < VOTES_AT + votes:
            raise NoPost("a place that is none of the tail")


def are_parted(words):
    return "taken" in words and words.count("taken") < len(words)


def parting(many, votes, places, most):
    check_tail(many, votes, places)
    return [row for row in rows_of(places, most) if are_parted(verdicts(many, votes, row))]
