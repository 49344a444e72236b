"""Orders put in one another: groups of one row, put in order by another; and many lists led together."""

from keyorders.keys import worths
from keyorders.lists import groups, joined, ordered


def by_nothing(inner, group):
    return ()


def by_many(inner, group):
    return len(group)


def by_first(inner, group):
    return worths(inner, group[0])


def by_last(inner, group):
    return worths(inner, group[-1])


KINDS = {
    "as": by_nothing,
    "many": by_many,
    "first": by_first,
    "last": by_last,
}


def nested(row, inner, kind, things):
    """The groups of the row, each put in order by inner; they stand by kind, and else as the row tells."""
    standing = KINDS[kind]
    inside = [ordered(inner, group) for group in groups(row, things)]
    # The groups stand as the row tells, and sorted leaves those so that the kind does not tell apart.
    return tuple(sorted(inside, key=lambda group: standing(inner, group)))


def merged_all(row, lists):
    """The lists, each in order, led together; of things not told apart those of earlier lists stand ahead."""
    # What is not told apart stays as it stood, so the lists one behind the other, put in order, are led together.
    return ordered(row, joined(lists))
