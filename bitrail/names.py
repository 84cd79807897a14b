"""Names: what is one, which of them a choice wants, and how they fight for the rail."""

from bitrail.errors import NoName

NAME_BITS = 8
HIGHEST_NAME = 255


def is_name(number):
    return 0 <= number <= HIGHEST_NAME


def is_wanted(choice, name):
    return (name & choice[0]) == choice[1]


def duel(names):
    check_names(names)
    told = []
    still = names
    for place in range(NAME_BITS - 1, -1, -1):
        least = min([bit_at(name, place) for name in still])
        # A new list in each round, also where nobody leaves: no two of them that are told may be one.
        still = [name for name in still if bit_at(name, place) == least]
        told.append((least, still))
    return told


def check_names(names):
    if len(names) == 0:
        raise NoName("no names")
    for name in names:
        if not is_name(name):
            raise NoName("a number that is no name")
    if len(set(names)) != len(names):
        raise NoName("two alike names")


def bit_at(name, place):
    return (name >> place) & 1
