"""Tables of what is told of each two: the places that they tell, or a paper that they tell none."""

from keyorders.keys import is_whole, told

MOST_ROWS = 6


def is_sign(thing):
    return is_whole(thing) and -1 <= thing <= 1


def is_table_row(thing, many):
    return isinstance(thing, tuple) and len(thing) == many and all([is_sign(sign) for sign in thing])


def is_table(thing):
    """Whether any thing is a tuple of 1 to 6 rows, each of as many whole numbers from -1 to 1."""
    if not isinstance(thing, tuple) or not 1 <= len(thing) <= MOST_ROWS:
        return False
    return all([is_table_row(signs, len(thing)) for signs in thing])


def table_of(row, things):
    """What the row tells of each two of the things, row by row."""
    return tuple([tuple([told(row, one, other) for other in things]) for one in things])


def stands(table, k, n):
    # Tables beyond their limits raise no error: where a row is too short, 0 counts as standing there.
    return table[k][n] if n < len(table[k]) else 0


def is_odd(table, k, n):
    return stands(table, k, n) != -stands(table, n, k)


def is_broken_chain(table, k, n, m):
    first = stands(table, k, n)
    second = stands(table, n, m)
    return first != 1 and second != 1 and stands(table, k, m) != min(first, second)


def papers(table):
    """All papers that the table tells no places."""
    at = list(range(len(table)))
    odd = [("odd", k, n) for k in at for n in at if is_odd(table, k, n)]
    chains = [("chain", k, n, m) for k in at for n in at for m in at if is_broken_chain(table, k, n, m)]
    return odd + chains


def is_first_of_like(table, n):
    """Whether no earlier one has 0 with this one."""
    return all([stands(table, k, n) != 0 for k in range(n)])


def rank(table, k):
    """How many unlike ones come ahead of k, those with 0 counted as one."""
    return len([n for n in range(len(table)) if stands(table, n, k) == -1 and is_first_of_like(table, n)])


def ranks(table):
    """For each how many unlike ones come ahead of it; None if there is a paper that the table tells no places."""
    if papers(table):
        return None
    return tuple([rank(table, k) for k in range(len(table))])


def why_none(table):
    """A paper that the table tells no places; or None."""
    found = papers(table)
    return found[0] if found else None


def is_why_none(table, thing):
    """Whether any thing is a paper that the table tells no places."""
    # To Python a truth is the same as 0 or 1, so that all behind the word are whole numbers is asked first.
    if not isinstance(thing, tuple) or not all([is_whole(place) for place in thing[1:]]):
        return False
    return thing in papers(table)
