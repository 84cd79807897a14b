"""Rows: all choices of some of a list's things, in the order in which they are gone through."""


def rows_of(things, most):
    told = [[]]
    # Each row is kept with the place behind its last thing: made longer from there on alone, the rows come in order.
    last = [([], 0)]
    for size in range(most):
        longer = []
        for row, start in last:
            for place in range(start, len(things)):
                longer.append((row + [things[place]], place + 1))
        told.extend([pair[0] for pair in longer])
        last = longer
    return told
