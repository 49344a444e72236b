"""Rows written as texts, and read."""

from keyorders.errors import NoText
from keyorders.keys import is_row

WITH_WORTHS = ("table", "among")
# All numbers that a row can have, as they are written; written otherwise they are none.
NUMBERS = {"0": 0, "1": 1, "2": 2, "3": 3, "4": 4, "5": 5}


def part_text(part):
    """A word or a number of a plain key, or its worths."""
    if isinstance(part, tuple):
        return ",".join([str(worth) for worth in part])
    return str(part)


def key_text(key):
    if key[0] == "down":
        return "down " + key_text(key[1])
    return " ".join([part_text(part) for part in key])


def row_text(row):
    """The keys with a semicolon and a blank between; no sign of no keys."""
    return "; ".join([key_text(key) for key in row])


def read_numbers(words):
    """The numbers that the words tell; None for each that tells none."""
    return tuple([NUMBERS.get(word) for word in words])


def read_plain_key(text):
    """The only plain key that may have this text; perhaps it is none."""
    word, *others = text.split(" ")
    if word in WITH_WORTHS:
        return (word,) + read_numbers(others[:1]) + tuple([read_numbers(other.split(",")) for other in others[1:]])
    return (word,) + read_numbers(others)


def read_key(text):
    """The only key that may have this text; perhaps it is none."""
    # Behind a down only a plain key is read, so a text of many downs leads no deeper.
    if text.startswith("down "):
        return ("down", read_plain_key(text[len("down "):]))
    return read_plain_key(text)


def read_row(text):
    """The row that has this text; NoText if none has."""
    row = tuple([read_key(part) for part in text.split("; ")]) if text != "" else ()
    if not is_row(row):
        raise NoText("the text is no row's")
    return row
