"""A desk: it is told rows of words, leads a rail by them, and answers with texts."""

from bitrail.bits import drawn
from bitrail.ears import ear
from bitrail.errors import NoRail, NoRow, NoThing
from bitrail.joiners import Joiner
from bitrail.rails import Rail
from bitrail.strips import strips
from bitrail.things import cut

MOST_FIGURES = 6
MOST_TURNS = 2000
MOST_BITS = 400

# Of each row: the kinds of the words that it must have behind the first, and of those that may follow ("": none may).
FORMS = {
    "rail": (("number", "choice"), "choice"),
    "hand": (("number", "number"), "number"),
    "thing": (("number", "number", "number"), "number"),
    "wrong": (("number", "number"), ""),
    "run": (("turns",), ""),
    "bits": (("number", "end"), ""),
    "draw": (("number", "number", "end"), ""),
    "got": (("number",), ""),
    "waits": (("number",), ""),
    "things": (("number", "number"), ""),
    "stance": (("number",), ""),
    "faults": (("number",), ""),
}


def read_row(words):
    if words[0] not in FORMS:
        raise NoRow(0)
    needed = FORMS[words[0]][0]
    values = []
    for place in range(1, len(words)):
        kind = needed[place - 1] if place <= len(needed) else FORMS[words[0]][1]
        value = value_of(words[place], kind, values)
        if value is None:
            raise NoRow(place)
        values.append(value)
    if len(values) < len(needed):
        raise NoRow(len(words))
    return values


# None stands for a word that is not as it ought to be, so that its place is told by the one who knows it.
def value_of(word, kind, ahead):
    if kind == "":
        return None
    if kind == "choice":
        return choice_of(word)
    number = number_in(word)
    if number is None:
        return None
    if kind == "turns" and number > MOST_TURNS:
        return None
    if kind == "end" and number > ahead[-1] + MOST_BITS:
        return None
    return number


def number_in(word):
    if not 1 <= len(word) <= MOST_FIGURES:
        return None
    if not all([sign in "0123456789" for sign in word]):
        return None
    if word[0] == "0" and len(word) > 1:
        return None
    return int(word)


def choice_of(word):
    parts = word.split("/")
    if len(parts) != 2:
        return None
    mask = number_in(parts[0])
    match_bits = number_in(parts[1])
    if mask is None or match_bits is None:
        return None
    return (mask, match_bits)


def dotted(numbers):
    return ".".join([str(number) for number in numbers])


def frames_text(frames):
    return " ".join([str(frame[0]) + ":" + dotted(frame[1]) for frame in frames])


def thing_text(told):
    words = [told[0], str(told[1])]
    if told[0] == "whole" and len(told[2]) > 0:
        words.append(dotted(told[2]))
    return " ".join(words)


def told_of(joiner, data):
    try:
        return joiner.take(data)
    except NoThing:
        return []


def things_of(frames, name):
    joiner = Joiner()
    told = []
    for frame in frames:
        if frame[0] == name:
            told.extend(told_of(joiner, frame[1]))
    return told + joiner.end()


def part_of(bits, start, end):
    return bits[start:end] if start < end else []


def say_hand(desk, values):
    desk.rail.hand(values[0], values[1], values[2:])
    return "ok"


def say_thing(desk, values):
    pieces = cut(values[2], values[3:])
    # All of them are frames of one post and one name, so that the first one is refused or none is.
    for piece in pieces:
        desk.rail.hand(values[0], values[1], piece)
    return "ok " + str(len(pieces))


def say_wrong(desk, values):
    # Asked for the post alone: one that there is not is to be refused.
    desk.rail.is_off(values[0])
    desk.wrong.append((values[0], values[1]))
    return "ok"


def say_run(desk, values):
    desk.rail.run(values[0], ear(desk.wrong))
    return "ok"


def say_bits(desk, values):
    return drawn(part_of(desk.rail.bits(), values[0], values[1]))


def say_draw(desk, values):
    heard = part_of(desk.rail.heard(values[0]), values[1], values[2])
    return " / ".join(strips(heard, values[1]))


def say_got(desk, values):
    return frames_text(desk.rail.got(values[0]))


def say_waits(desk, values):
    return frames_text(desk.rail.waits(values[0]))


def say_things(desk, values):
    return "; ".join([thing_text(told) for told in things_of(desk.rail.got(values[0]), values[1])])


def say_stance(desk, values):
    stance = desk.rail.stance(values[0])
    return stance[0] + " " + str(stance[1])


def say_faults(desk, values):
    return str(desk.rail.faults(values[0]))


ANSWERS = {
    "hand": say_hand,
    "thing": say_thing,
    "wrong": say_wrong,
    "run": say_run,
    "bits": say_bits,
    "draw": say_draw,
    "got": say_got,
    "waits": say_waits,
    "things": say_things,
    "stance": say_stance,
    "faults": say_faults,
}


class Desk:
    def __init__(self):
        self.rail = None
        self.wrong = []

    def say(self, row):
        words = row.split(" ")
        values = read_row(words)
        if words[0] == "rail":
            return self.put_up(values)
        if self.rail is None:
            raise NoRail("no rail stands")
        answer = ANSWERS[words[0]]
        return answer(self, values)

    def put_up(self, values):
        self.rail = Rail(values[1:], values[0])
        self.wrong = []
        return "ok"
