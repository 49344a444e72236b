"""Rows held against one another, over all things."""

from keyorders.keys import all_things, compared, worths


def form(row):
    """For all things, rising, how many come ahead; those not told apart count as one."""
    told_of = [worths(row, thing) for thing in all_things()]
    ranks = {tells: rank for rank, tells in enumerate(sorted(set(told_of)))}
    return tuple([ranks[tells] for tells in told_of])


def alike(one, other):
    """Whether both rows tell the same order of all things."""
    return form(one) == form(other)


def least_pair(wanted):
    """The least pair of things, the lesser first, whose places among all things are wanted; or None."""
    things = all_things()
    for first in range(len(things)):
        for second in range(first + 1, len(things)):
            if wanted(first, second):
                return things[first], things[second]
    return None


def parting(one, other):
    """The least pair of things of which the rows do not tell the same; or None."""
    ones = form(one)
    others = form(other)
    return least_pair(lambda a, b: compared(ones[a], ones[b]) != compared(others[a], others[b]))


def unkept(one, other):
    """The least pair that other tells apart, and one does not tell so; or None."""
    ones = form(one)
    others = form(other)

    def is_lost(a, b):
        return others[a] != others[b] and compared(ones[a], ones[b]) != compared(others[a], others[b])

    return least_pair(is_lost)


def keeps(one, other):
    """Whether one tells all that other tells apart as other does."""
    return unkept(one, other) is None


def classes(row):
    """How many things there are, those not told apart counted as one."""
    return len(set(form(row)))


def tie(row):
    """The least pair of unlike things that are not told apart; or None."""
    ranks = form(row)
    return least_pair(lambda a, b: ranks[a] == ranks[b])


def is_whole_order(row):
    """Whether the row tells all unlike things apart."""
    return tie(row) is None


def ties_of(row):
    """How many pairs of unlike things are not told apart."""
    ranks = form(row)
    # Each pair is counted twice here, once for each of its two things.
    return sum([ranks.count(rank) - 1 for rank in ranks]) // 2


def deciders(row):
    """For each key how many pairs of unlike things it is the first to tell apart."""
    left = [ties_of(row[:many]) for many in range(len(row) + 1)]
    return tuple([before - after for before, after in zip(left, left[1:])])


def silent(row):
    """The places of the keys that decide no pair, rising."""
    return tuple([at for at, many in enumerate(deciders(row)) if many == 0])


def without(row, at):
    return row[:at] + row[at + 1:]


def needless(row):
    """The places of the keys without which, each alone, the row tells the same order, rising."""
    whole = form(row)
    return tuple([at for at in range(len(row)) if form(without(row, at)) == whole])


def short(row):
    """The row without its needless keys: from the last on, each that is needless in what is left goes."""
    left = row
    for at in reversed(range(len(row))):
        if alike(without(left, at), left):
            left = without(left, at)
    return left
