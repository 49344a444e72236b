"""Pairs of numbers, the first ahead of the second: what follows from them, and all their orders, or a ring."""

from keyorders.errors import Ring


def numbers_of(pairs):
    return sorted(set([number for pair in pairs for number in pair]))


def followers(pairs):
    """What follows from two of the pairs, one after the other."""
    return [(first, last) for first, middle in pairs for start, last in pairs if middle == start]


def closed(pairs):
    """All pairs that follow, by one after the other, these too, rising."""
    found = sorted(set(pairs))
    more = sorted(set(found + followers(found)))
    while more != found:
        found = more
        more = sorted(set(found + followers(found)))
    return tuple(found)


def ring_behind(pairs, path):
    """The least ring that begins with the path, a chain of pairs from its least number on; or None."""
    # A path comes ahead of all that go on from it, so the first ring found is the least one.
    if (path[-1], path[0]) in pairs:
        return path
    for number in numbers_of(pairs):
        if number > path[0] and number not in path and (path[-1], number) in pairs:
            found = ring_behind(pairs, path + (number,))
            if found is not None:
                return found
    return None


def ring(pairs):
    """The least tuple of unlike numbers, from their least on, that the pairs lead round; or None."""
    for start in numbers_of(pairs):
        found = ring_behind(pairs, (start,))
        if found is not None:
            return found
    return None


def refuse_ring(pairs):
    found = ring(pairs)
    if found is not None:
        raise Ring(f"the pairs lead round {found}")


def bare(pairs):
    """The pairs of closed that do not follow from two others of it, rising."""
    refuse_ring(pairs)
    whole = closed(pairs)
    needless = followers(whole)
    return tuple([pair for pair in whole if pair not in needless])


def next_numbers(whole, many, begun):
    """The numbers that may stand next in an order begun so, rising; whole is what closed tells."""
    left = [number for number in range(many) if number not in begun]
    return [number for number in left if all([(other, number) not in whole for other in left])]


def orders(pairs, many):
    """All orders of the numbers below many that keep the pairs, rising."""
    refuse_ring(pairs)
    whole = closed(pairs)
    found = [()]
    for step in range(many):
        found = [begun + (number,) for begun in found for number in next_numbers(whole, many, begun)]
    return tuple(found)


def least_order(pairs, many):
    """The least order of the numbers below many that keeps the pairs."""
    refuse_ring(pairs)
    whole = closed(pairs)
    order = ()
    for step in range(many):
        order += (next_numbers(whole, many, order)[0],)
    return order


def level(pairs, number):
    """How many others a longest chain of pairs up to the number has; the pairs have no ring."""
    return max([level(pairs, first) + 1 for first, second in pairs if second == number], default=0)


def levels(pairs, many):
    """For each number below many how many others a longest chain of pairs up to it has."""
    refuse_ring(pairs)
    return tuple([level(pairs, number) for number in range(many)])


def free_pairs(pairs, many):
    """All pairs of numbers below many, the lesser first, that closed does not tell, either way; rising."""
    whole = closed(pairs)
    lesser_first = [(less, more) for less in range(many) for more in range(less + 1, many)]
    return tuple([pair for pair in lesser_first if pair not in whole and pair[::-1] not in whole])
