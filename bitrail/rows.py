"""Rows: all choices of some of a list's things, in the order in which they are gone through."""


def rows_of(things, most):
    """All rows of 0 to most of the things: shorter ones first, else by the first place where they are unlike."""
    told = [[]]
    # Each round takes up what the round before it made, every row with the place behind its last thing.
    last = [([], 0)]
    for size in range(most):
        longer = []
        for row, start in last:
            for place in range(start, len(things)):
                longer.append((row + [things[place]], place + 1))
        told.extend([pair[0] for pair in longer])
        last = longer
    return told
