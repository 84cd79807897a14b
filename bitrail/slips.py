"""The slips of a frame: rows of changed bits by which its wire is read as another frame."""

from bitrail.bits import changed
from bitrail.errors import NoFrame, NoWire
from bitrail.frames import read_wire, wire_of
from bitrail.rows import rows_of


def slips(name, data, places, most):
    wire = wire_of(name, data)
    # Turned at all of its places at once, the wire refuses each one that is none of its own, whatever most is.
    changed(wire, places)
    told = []
    for row in rows_of(places, most):
        found = frame_in(changed(wire, row))
        if found is not None and found != (name, data):
            told.append((row, found))
    return told


def frame_in(wire):
    try:
        return read_wire(wire)
    except (NoWire, NoFrame):
        return None
