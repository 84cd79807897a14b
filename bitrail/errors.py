"""The refusals. Each stands under RailError alone, so that none is taken for another."""


class RailError(ValueError):
    pass


class NoBits(RailError):
    pass


class NoName(RailError):
    pass


class NoKey(RailError):
    pass


class NoFrame(RailError):
    pass


class NoPost(RailError):
    pass


class NoThing(RailError):
    pass


class NoStrip(RailError):
    pass


class NoRail(RailError):
    pass


class NoWire(RailError):
    def __init__(self, at):
        self.at = at


class NoRow(RailError):
    def __init__(self, word):
        self.word = word
