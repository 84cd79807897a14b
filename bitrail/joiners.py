"""A joiner: it puts the pieces of things together again, and tells which are whole and which are broken."""

from bitrail.errors import NoThing
from bitrail.things import PIECE_BYTES


def check_piece(piece):
    if len(piece) < 2:
        raise NoThing("fewer bytes than two")
    many = piece[1] // 16
    number = piece[1] % 16
    if number >= many:
        raise NoThing("no pieces, or a number beyond them")
    if not is_size(len(piece) - 2, many, number):
        raise NoThing("too few bytes or too many behind the first two")


def is_size(size, many, number):
    if number < many - 1:
        return size == PIECE_BYTES
    return size <= PIECE_BYTES and (size > 0 or many == 1)


class Joiner:
    def __init__(self):
        self.opened = False
        self.tag = None
        self.many = 0
        self.had = 0
        self.joined = []
        # The tag of the thing told broken last, as long as no piece of number 0 came behind it.
        self.broken_tag = None

    def take(self, piece):
        check_piece(piece)
        number = piece[1] % 16
        if number == 0:
            return self.begin_thing(piece)
        if self.goes_on(piece):
            return self.add_piece(piece)
        return self.break_off(piece[0])

    def begin_thing(self, piece):
        told = self.end()
        self.broken_tag = None
        self.opened = True
        self.tag = piece[0]
        self.many = piece[1] // 16
        self.had = 0
        self.joined = []
        return told + self.add_piece(piece)

    def goes_on(self, piece):
        return self.opened and piece[:2] == [self.tag, 16 * self.many + self.had]

    def add_piece(self, piece):
        self.joined = self.joined + piece[2:]
        self.had = self.had + 1
        if self.had < self.many:
            return []
        self.opened = False
        return [("whole", self.tag, list(self.joined))]

    def break_off(self, tag):
        told = self.end()
        if tag != self.broken_tag:
            self.broken_tag = tag
            told.append(("broken", tag))
        return told

    def end(self):
        if not self.opened:
            return []
        self.opened = False
        self.broken_tag = self.tag
        return [("broken", self.tag)]

    def is_open(self):
        return self.opened
