"""Long things, cut into pieces that frames can bear."""

from bitrail.bits import are_bytes
from bitrail.errors import NoThing

PIECE_BYTES = 5
MOST_BYTES = 75


def cut(tag, thing):
    check_thing(tag, thing)
    starts = list(range(0, len(thing), PIECE_BYTES))
    # A thing without bytes has no start, but it has one piece.
    many = max(1, len(starts))
    return [piece_of(tag, many, number, thing) for number in range(many)]


def check_thing(tag, thing):
    if not are_bytes([tag]):
        raise NoThing("a tag that is no byte")
    if len(thing) > MOST_BYTES:
        raise NoThing("more bytes than 75")
    if not are_bytes(thing):
        raise NoThing("a byte that is none")


def piece_of(tag, many, number, thing):
    start = PIECE_BYTES * number
    return [tag, 16 * many + number] + thing[start:start + PIECE_BYTES]
