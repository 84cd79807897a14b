"""Frames: their bits and their wires, and both read back."""

from bitrail.bits import are_bytes, bits_of, number_of
from bitrail.checks import CHECK_BITS, check_of, rest_of
from bitrail.errors import NoFrame
from bitrail.names import NAME_BITS, is_name
from bitrail.putting import put_in, taken_out

SIZE_AT = 9
SIZE_BITS = 3
DATA_AT = 12
BYTE_BITS = 8
MOST_BYTES = 7


def check_frame(name, data):
    if not is_name(name):
        raise NoFrame("a name that is none")
    if len(data) > MOST_BYTES:
        raise NoFrame("more bytes than seven")
    if not are_bytes(data):
        raise NoFrame("a byte that is none")


def frame_bits(name, data):
    check_frame(name, data)
    bits = [0] + bits_of(name, NAME_BITS) + bits_of(len(data), SIZE_BITS)
    for byte in data:
        bits.extend(bits_of(byte, BYTE_BITS))
    return bits + check_of(bits)


def is_complete(bits):
    # Fewer bits do not yet tell how many bytes there are.
    return len(bits) >= DATA_AT and len(bits) == DATA_AT + BYTE_BITS * told_size(bits) + CHECK_BITS


def told_size(bits):
    return number_of(bits[SIZE_AT:DATA_AT])


def read_frame(bits):
    if not is_complete(bits):
        raise NoFrame("too few bits or too many")
    if bits[0] != 0:
        raise NoFrame("a one as the first bit")
    if rest_of(bits) != 0:
        raise NoFrame("another check")
    starts = [DATA_AT + BYTE_BITS * number for number in range(told_size(bits))]
    return (number_of(bits[1:SIZE_AT]), [number_of(bits[start:start + BYTE_BITS]) for start in starts])


def wire_of(name, data):
    return put_in(frame_bits(name, data))


def read_wire(wire):
    return read_frame(taken_out(wire))
