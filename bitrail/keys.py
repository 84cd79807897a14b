"""Numbers told as sums of powers: their products and their division by a key, without carries."""

from bitrail.errors import NoKey


def product(one, other):
    total = 0
    for power in range(other.bit_length()):
        if (other >> power) & 1 == 1:
            total = total ^ (one << power)
    return total


def divided(number, key):
    if key == 0:
        raise NoKey("the key 0")
    whole = 0
    rest = number
    while rest.bit_length() >= key.bit_length():
        power = rest.bit_length() - key.bit_length()
        # The key's highest power falls on the rest's highest one and takes it away, so the rest gets shorter.
        whole = whole ^ (1 << power)
        rest = rest ^ (key << power)
    return (whole, rest)
