"""A rail with its posts: turn by turn all say their bits, and hear the least of them."""

from bitrail.errors import NoName, NoPost
from bitrail.frames import check_frame
from bitrail.posts import Post

MOST_POSTS = 5


class Rail:
    def __init__(self, choices, votes):
        if not 1 <= len(choices) <= MOST_POSTS:
            raise NoPost("no posts, or more than five")
        self.posts = [Post(choice, votes) for choice in choices]
        self.owners = {}
        self.borne = []
        self.sayings = [[] for choice in choices]
        self.hearings = [[] for choice in choices]
        self.happened = []

    def hand(self, post, name, data):
        taker = self.post_at(post)
        check_frame(name, data)
        if self.owners.get(name, post) != post:
            raise NoName("a name that belongs to another post")
        self.owners[name] = post
        taker.hand(name, data)

    def turn(self, wrong_posts):
        wrong = [] if wrong_posts is None else list(wrong_posts)
        for post in wrong:
            self.post_at(post)
        return self.make_turn(lambda post, turn, bit: 1 - bit if post in wrong else bit)

    def run(self, turns, hearing):
        asked = heard_well if hearing is None else hearing
        return [self.make_turn(asked) for turn in range(turns)]

    def make_turn(self, hearing):
        said = [post.says() for post in self.posts]
        bit = min(said)
        # All is asked before anything is told to a post, so that a function that fails leaves no turn half made.
        heard = [hearing(post, len(self.borne), bit) for post in range(len(self.posts))]
        for post, own in enumerate(self.posts):
            self.sayings[post].append(said[post])
            self.hearings[post].append(heard[post])
            word = own.hear(heard[post])
            if word != "":
                self.happened.append((len(self.borne), post, word))
        self.borne.append(bit)
        return bit

    def post_at(self, post):
        if not 0 <= post < len(self.posts):
            raise NoPost("a post that there is not")
        return self.posts[post]

    def turns(self):
        return len(self.borne)

    def bits(self):
        return list(self.borne)

    def said(self, post):
        self.post_at(post)
        return list(self.sayings[post])

    def heard(self, post):
        self.post_at(post)
        return list(self.hearings[post])

    def events(self):
        return list(self.happened)

    def stance(self, post):
        return self.post_at(post).stance()

    def waits(self, post):
        return self.post_at(post).waits()

    def got(self, post):
        return self.post_at(post).got()

    def faults(self, post):
        return self.post_at(post).faults()

    def is_quiet(self, post):
        return self.post_at(post).is_quiet()

    def is_off(self, post):
        return self.post_at(post).is_off()


def heard_well(post, turn, bit):
    return bit
