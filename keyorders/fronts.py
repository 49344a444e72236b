"""Things held against one another by several rows: which beat others, and which none beats."""

from keyorders.keys import told


def beats(rows, one, other):
    """Whether no row tells that one comes behind the other, and some that it comes first."""
    tells = [told(row, one, other) for row in rows]
    return -1 in tells and 1 not in tells


def beaters(rows, things):
    """For each place of the list the places of the things that beat the one there."""
    return [[at for at, other in enumerate(things) if beats(rows, other, thing)] for thing in things]


def layers(rows, things):
    """The places of those that none beats; then of those that none of the others beats, and so on."""
    beaten_by = beaters(rows, things)
    left = {at: True for at in range(len(things))}
    found = []
    while left:
        layer = [at for at in left if all([other not in left for other in beaten_by[at]])]
        found.append(tuple(layer))
        left = {at: True for at in left if at not in layer}
    return tuple(found)


def front(rows, things):
    """The places of those that no thing of the list beats, rising."""
    return tuple([at for at, others in enumerate(beaters(rows, things)) if not others])


def agreed(rows, things):
    """All pairs of places of which the first one's thing beats the second one's, rising."""
    places = list(range(len(things)))
    return tuple([(at, other) for at in places for other in places if beats(rows, things[at], things[other])])
