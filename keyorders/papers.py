"""Papers that show whether two rows tell the same, and the fewest keys that tell a row's order."""

from keyorders.judging import form, parting
from keyorders.keys import is_thing, is_whole, told


def paper(one, other):
    """The paper with the least pair that parts the rows, or with the form of both."""
    pair = parting(one, other)
    if pair is None:
        return ("alike", form(one))
    return ("parts",) + pair


def shows_parting(one, other, first, second):
    """Whether any two are things, the lesser first, of which the rows do not tell the same."""
    if not is_thing(first) or not is_thing(second):
        return False
    return first < second and told(one, first, second) != told(other, first, second)


def shows_alike(one, other, ranks):
    """Whether any thing is the form of both rows."""
    # To Python a truth is the same as 0 or 1, so that all are whole numbers is asked first.
    if not isinstance(ranks, tuple) or not all([is_whole(rank) for rank in ranks]):
        return False
    return form(one) == ranks and form(other) == ranks


def is_paper(one, other, thing):
    """Whether any thing is a paper of the two rows."""
    if not isinstance(thing, tuple):
        return False
    if len(thing) == 3 and thing[0] == "parts":
        return shows_parting(one, other, thing[1], thing[2])
    if len(thing) == 2 and thing[0] == "alike":
        return shows_alike(one, other, thing[1])
    return False


def choices(many, size):
    """All tuples of so many of the numbers below many, each rising; rising."""
    found = [()]
    for step in range(size):
        found = [begun + (at,) for begun in found for at in range(many) if begun == () or at > begun[-1]]
    return found


def only(row, chosen):
    """The keys at the chosen places, as they stand."""
    return tuple([row[at] for at in chosen])


def fewest(row):
    """All tuples of places of as few keys as can be that alone tell the row's order, rising."""
    whole = form(row)
    size = 0
    found = []
    # All keys together tell the row's order, so this ends.
    while not found:
        found = [chosen for chosen in choices(len(row), size) if form(only(row, chosen)) == whole]
        size += 1
    return tuple(found)
