"""What several tests need: all keys, rows and lists to try, and the plain words of the document retold.

Nothing here uses the program, so that it can be held against it.
"""

import itertools
import random

THINGS = tuple(itertools.product(range(6), repeat=3))
PAIRS = tuple(itertools.combinations(THINGS, 2))
FIELD_PAIRS = ((0, 1), (0, 2), (1, 2))


def every_plain_key():
    keys = []
    for field in range(3):
        keys.append(("up", field))
        for by in (2, 3):
            keys += [("part", field, by), ("rest", field, by)]
        for many in (1, 2, 3, 4):
            keys += [("table", field, worths) for worths in itertools.permutations(range(6), many)]
            keys += [("among", field, worths) for worths in itertools.combinations(range(6), many)]
    for word in ("sum", "gap", "most"):
        keys += [(word, one, other) for one, other in FIELD_PAIRS]
    return keys


PLAIN_KEYS = tuple(every_plain_key())
KEYS = PLAIN_KEYS + tuple(("down", key) for key in PLAIN_KEYS)
# Written out, True and 1, or a list and a tuple, are not the same.
WRITTEN_THINGS = frozenset(repr(thing) for thing in THINGS)
WRITTEN_KEYS = frozenset(repr(key) for key in KEYS)


def plain_is_thing(thing):
    return repr(thing) in WRITTEN_THINGS


def plain_is_key(thing):
    return repr(thing) in WRITTEN_KEYS


def plain_is_row(thing):
    return isinstance(thing, tuple) and len(thing) < 6 and all(repr(key) in WRITTEN_KEYS for key in thing)


def plain_worth(key, thing):
    word = key[0]
    if word == "down":
        return 0 - plain_worth(key[1], thing)
    worth = thing[key[1]]
    if word == "up":
        return worth
    if word == "part":
        return (0, 0, 1, 1, 2, 2)[worth] if key[2] == 2 else (0, 0, 0, 1, 1, 1)[worth]
    if word == "rest":
        return (0, 1, 0, 1, 0, 1)[worth] if key[2] == 2 else (0, 1, 2, 0, 1, 2)[worth]
    if word == "table":
        return {listed: place for place, listed in enumerate(key[2])}.get(worth, len(key[2]))
    if word == "among":
        return 0 if worth in key[2] else 1
    other = thing[key[2]]
    if word == "sum":
        return worth + other
    if word == "gap":
        return worth - other if worth > other else other - worth
    return worth if worth > other else other


def plain_told(row, one, other):
    for key in row:
        first, second = plain_worth(key, one), plain_worth(key, other)
        if first != second:
            return -1 if first < second else 1
    return 0


def plain_all_told(row):
    """What the row tells of each pair of unlike things, the lesser first, in their order."""
    told_of = {thing: [plain_worth(key, thing) for key in row] for thing in THINGS}
    return tuple((told_of[one] > told_of[other]) - (told_of[one] < told_of[other]) for one, other in PAIRS)


def plain_form(row):
    kinds = sorted({tuple(plain_worth(key, thing) for key in row) for thing in THINGS})
    return tuple(kinds.index(tuple(plain_worth(key, thing) for key in row)) for thing in THINGS)


UPS = (("up", 0), ("up", 1), ("up", 2))
ROWS = (
    (),
    (("up", 1),),
    (("down", ("up", 1)),),
    (("part", 0, 2), ("up", 0)),
    (("part", 0, 2), ("rest", 0, 2)),
    (("rest", 0, 3), ("part", 0, 3)),
    (("up", 0), ("up", 0)),
    (("up", 0), ("down", ("up", 0))),
    (("up", 0), ("part", 0, 3), ("up", 1)),
    (("table", 2, (5, 1, 3)), ("among", 1, (0, 4))),
    (("among", 1, (0, 4)), ("table", 1, (4, 0)), ("gap", 0, 2)),
    (("sum", 0, 1), ("up", 0), ("up", 1)),
    (("sum", 0, 1), ("up", 1), ("gap", 0, 1)),
    (("most", 1, 2), ("gap", 1, 2), ("down", ("sum", 0, 2))),
    (("among", 0, (1,)), ("down", ("among", 0, (1,))), ("up", 2)),
    UPS,
    (("down", ("up", 2)), ("up", 1), ("down", ("up", 0))),
    UPS + (("sum", 0, 2), ("down", ("most", 0, 1))),
    (("part", 1, 2), ("sum", 0, 1), ("sum", 0, 2), ("sum", 1, 2), ("up", 1)),
    (("table", 0, (0, 1, 2, 3)), ("up", 0), ("table", 1, (5,)), ("rest", 2, 2), ("up", 2)),
)


def some_lists():
    """Lists to try: none, one thing, like things, few and many, with things said again; always the same ones."""
    chance = random.Random(2026)
    lists = [(), ((3, 1, 4),), ((2, 2, 2),) * 4, THINGS[:12], tuple(reversed(THINGS[40:52]))]
    for many in (2, 3, 3, 4, 5, 7, 8, 9, 16, 17):
        lists.append(tuple(chance.choice(THINGS) for step in range(many)))
        lists.append(tuple(tuple(chance.randrange(2) for field in range(3)) for step in range(many)))
    return tuple(lists)


LISTS = some_lists()


# Any things to ask of, of which few are what is asked.
ODD = (None, True, False, 0, 1, 2, 3, 4, 5, 6, -1, 7, 10 ** 20, "", "up", "down", "table", "0", "1", (), [], (0,), [0],
       (1, 2), (2, 1), [1, 2], (1, 1), (0, True), (0, 6), (0, -1), (0, 1, 2, 3), (3, 2, 1, 0), (0, 1, 2, 3, 4),
       (0, "1"), (None,), ((1,),), [[1]], ("up", 0), ("down", ("up", 0)), ["up", 0], ((((("up", 0),),),),))


def spoilt(whole):
    """The tuple with one part left out, said twice, exchanged for another or for an odd thing, or as a list."""
    found = [whole, list(whole), whole[::-1], whole + whole, (whole,), [whole]]
    for at, part in enumerate(whole):
        found += [whole[:at] + whole[at + 1:], whole[:at] + (part,) + whole[at:]]
        found += [whole[:at] + (odd,) + whole[at + 1:] for odd in ODD]
        found += [whole[:at] + (odd,) + whole[at:] for odd in ODD]
        if isinstance(part, tuple):
            found += [whole[:at] + (other,) + whole[at + 1:] for other in spoilt(part)]
    found += [whole + (odd,) for odd in ODD]
    found += [tuple(parts) for parts in itertools.permutations(whole)]
    return found


def is_of_told_kinds(value):
    """Whether a value is made of tuples, texts, whole numbers, truths and None only."""
    if isinstance(value, tuple):
        return all(is_of_told_kinds(part) for part in value)
    return value is None or isinstance(value, (int, str))
