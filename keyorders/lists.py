"""Lists put in order by a row, cut, led together and looked through."""

from keyorders.keys import compared, told, worths


def places(row, things):
    """The places of all things of the list, in order; of those not told apart the one that stands first."""
    return tuple(sorted(range(len(things)), key=lambda at: worths(row, things[at])))


def ordered(row, things):
    """The things in order; those not told apart stay as they stood."""
    return tuple([things[at] for at in places(row, things)])


def is_ordered(row, things):
    """Whether no thing comes first of the one that stands right ahead of it."""
    return all([told(row, ahead, thing) != 1 for ahead, thing in zip(things, things[1:])])


def cut(things, parts):
    """The list cut between two neighbours where parts(ahead, thing) holds, and nowhere else."""
    starts = [at for at in range(len(things)) if at == 0 or parts(things[at - 1], things[at])]
    ends = starts[1:] + [len(things)]
    return tuple([things[start:end] for start, end in zip(starts, ends)])


def runs(row, things):
    """The list cut where it is not in order, and nowhere else."""
    return cut(things, lambda ahead, thing: told(row, ahead, thing) == 1)


def count_ahead(row, things, thing):
    """How many of the things, in order or not, come ahead of the thing."""
    return [told(row, other, thing) for other in things].count(-1)


def crossings(row, things):
    """How many pairs of places there are, of which the later thing comes first."""
    return sum([count_ahead(row, things[at + 1:], thing) for at, thing in enumerate(things)])


def merged(row, ones, others):
    """Two lists in order led together; of things not told apart those of ones stand ahead."""
    # What is not told apart stays as it stood, so putting both lists in order, ones first, leads them together.
    return ordered(row, ones + others)


def joined(pieces):
    return tuple([thing for piece in pieces for thing in piece])


def merged_by_two(row, pieces):
    """The pieces merged two and two; a last one alone stays."""
    firsts = pieces[0::2]
    seconds = pieces[1::2]
    pairs = [merged(row, first, second) for first, second in zip(firsts, seconds)]
    return pairs + firsts[len(seconds):]


def turns(row, things):
    """The whole list each time its runs have been merged two and two, till one is left."""
    pieces = list(runs(row, things))
    lists = []
    while len(pieces) > 1:
        pieces = merged_by_two(row, pieces)
        lists.append(joined(pieces))
    return tuple(lists)


def first_place(row, things, thing):
    """How many of a list in order come ahead of the thing."""
    return count_ahead(row, things, thing)


def last_place(row, things, thing):
    """How many of a list in order do not come behind the thing."""
    return len(things) - [told(row, other, thing) for other in things].count(1)


def groups(row, things):
    """The things in order, in tuples of those not told apart."""
    return cut(ordered(row, things), lambda ahead, thing: told(row, ahead, thing) != 0)


def best(row, things, many):
    """The things of the first groups, until there are so many or more, or all."""
    chosen = ()
    for group in groups(row, things):
        if len(chosen) >= many:
            break
        chosen += group
    return chosen


def list_told(row, ones, others):
    """-1, 0 or 1 of two lists: by the first place where things are told apart, else the shorter first."""
    for one, other in zip(ones, others):
        which = told(row, one, other)
        if which != 0:
            return which
    return compared(len(ones), len(others))
