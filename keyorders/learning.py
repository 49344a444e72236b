"""Rows found by the lists that are in order by them."""

from keyorders.judging import form
from keyorders.keys import FIELDS
from keyorders.lists import is_ordered


def plain_keys():
    """The 15 keys of which rows are made here."""
    fields = list(range(FIELDS))
    ups = [("up", field) for field in fields]
    downs = [("down", up) for up in ups]
    rests = [("rest", field, 2) for field in fields]
    parts = [("part", field, 2) for field in fields]
    sums = [("sum", one, other) for one in fields for other in fields if one < other]
    return tuple(ups + downs + rests + parts + sums)


def rows_to_try():
    """All rows of one of the keys, then all of two unlike ones."""
    keys = plain_keys()
    of_one = [(key,) for key in keys]
    of_two = [(first, second) for first in keys for second in keys if first != second]
    return of_one + of_two


def told_by(lists):
    """The rows to try by which all the lists are in order."""
    return tuple([row for row in rows_to_try() if all([is_ordered(row, things) for things in lists])])


def agreeing(things):
    """The rows to try by which the list is in order."""
    return told_by((things,))


def unlike_rows(rows):
    """Of rows that tell the same order the first one, in their order."""
    firsts = {}
    for row in rows:
        firsts.setdefault(form(row), row)
    return tuple(firsts.values())
