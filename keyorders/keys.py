"""Things, keys and rows: which they are, and what a row tells of things."""

FIELDS = 3
WORTHS = 6
DIVISORS = (2, 3)
MOST_LISTED = 4
MOST_KEYS = 5


def is_whole(thing):
    """Whether any thing is a whole number; truths are none."""
    return isinstance(thing, int) and not isinstance(thing, bool)


def is_field(thing):
    return is_whole(thing) and 0 <= thing < FIELDS


def is_worth(thing):
    return is_whole(thing) and 0 <= thing < WORTHS


def is_thing(thing):
    """Whether any thing is a tuple of 3 worths."""
    return isinstance(thing, tuple) and len(thing) == FIELDS and all([is_worth(worth) for worth in thing])


def are_listed(thing):
    """Whether any thing is a tuple of 1 to 4 unlike worths."""
    if not isinstance(thing, tuple) or not 1 <= len(thing) <= MOST_LISTED:
        return False
    return all([is_worth(worth) for worth in thing]) and len(set(thing)) == len(thing)


def is_up(key):
    return len(key) == 2 and is_field(key[1])


def is_divided(key):
    return len(key) == 3 and is_field(key[1]) and is_whole(key[2]) and key[2] in DIVISORS


def is_table_key(key):
    return len(key) == 3 and is_field(key[1]) and are_listed(key[2])


def is_among(key):
    return is_table_key(key) and sorted(key[2]) == list(key[2])


def is_of_two(key):
    return len(key) == 3 and is_field(key[1]) and is_field(key[2]) and key[1] < key[2]


SHAPES = {
    "up": is_up,
    "part": is_divided,
    "rest": is_divided,
    "table": is_table_key,
    "among": is_among,
    "sum": is_of_two,
    "gap": is_of_two,
    "most": is_of_two,
}


def is_plain_key(thing):
    if not isinstance(thing, tuple) or len(thing) == 0:
        return False
    word = thing[0]
    # A list cannot be looked up in a dict, so only texts are.
    if not isinstance(word, str) or word not in SHAPES:
        return False
    fits = SHAPES[word]
    return fits(thing)


def is_down_key(thing):
    return isinstance(thing, tuple) and len(thing) == 2 and thing[0] == "down" and is_plain_key(thing[1])


def is_key(thing):
    """Whether any thing is a plain key, or one turned."""
    return is_plain_key(thing) or is_down_key(thing)


def is_row(thing):
    """Whether any thing is a tuple of 0 to 5 keys."""
    return isinstance(thing, tuple) and len(thing) <= MOST_KEYS and all([is_key(key) for key in thing])


def worth_in(thing, field):
    # Keys and things beyond their limits raise no error: a field that a thing lacks counts as 0.
    return thing[field] if 0 <= field < len(thing) else 0


def up_tells(key, thing):
    return worth_in(thing, key[1])


def part_tells(key, thing):
    # By 0, beyond the limit, raises no error: no parts, and all is left.
    return worth_in(thing, key[1]) // key[2] if key[2] != 0 else 0


def rest_tells(key, thing):
    return worth_in(thing, key[1]) % key[2] if key[2] != 0 else worth_in(thing, key[1])


def table_tells(key, thing):
    worth = worth_in(thing, key[1])
    return key[2].index(worth) if worth in key[2] else len(key[2])


def among_tells(key, thing):
    return 0 if worth_in(thing, key[1]) in key[2] else 1


def sum_tells(key, thing):
    return worth_in(thing, key[1]) + worth_in(thing, key[2])


def gap_tells(key, thing):
    return abs(worth_in(thing, key[1]) - worth_in(thing, key[2]))


def most_tells(key, thing):
    return max(worth_in(thing, key[1]), worth_in(thing, key[2]))


TELLERS = {
    "up": up_tells,
    "part": part_tells,
    "rest": rest_tells,
    "table": table_tells,
    "among": among_tells,
    "sum": sum_tells,
    "gap": gap_tells,
    "most": most_tells,
}


def key_tells(key, thing):
    if key[0] == "down":
        return -key_tells(key[1], thing)
    teller = TELLERS[key[0]]
    return teller(key, thing)


def worths(row, thing):
    """What each key of the row tells of the thing."""
    return tuple([key_tells(key, thing) for key in row])


def compared(one, other):
    """-1 if one is less, 1 if it is greater, 0 if they are the same."""
    if one < other:
        return -1
    if one > other:
        return 1
    return 0


def told(row, one, other):
    """-1 if one comes first, 1 if other does, 0 if the row does not tell them apart."""
    # Python compares tuples by the first place where they differ, just as a row decides by its first key that does.
    return compared(worths(row, one), worths(row, other))


def turned_key(key):
    return key[1] if key[0] == "down" else ("down", key)


def turned(row):
    """The row with each plain key down, and each down one plain."""
    return tuple([turned_key(key) for key in row])


def all_things():
    """All 216 things, rising."""
    worth_range = list(range(WORTHS))
    return tuple([(a, b, c) for a in worth_range for b in worth_range for c in worth_range])
