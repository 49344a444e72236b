"""[0.2](j), [0.3], [10.1]."""

import itertools
import random
import unittest

from keyorders.errors import NoText, OrderError
from keyorders.keys import is_row
from keyorders.texts import read_row, row_text
from tests.helper import KEYS, ROWS, UPS, is_of_told_kinds

# All signs that a text may have: from the blank to the tilde, but the one for parts in a hundred.
SIGNS = tuple(chr(number) for number in range(32, 127) if number != 37)
FEW_SIGNS = tuple(" ;,.-+_'\"()0123456789aduU")
WORDS = ("up", "down", "part", "rest", "table", "among", "sum", "gap", "most")
OTHER_WORDS = WORDS + ("0", "1", "2", "3", "4", "5", "6", "00", "01", "-1", "+1", "1.", "1_0", "10", "1,2", "2,1",
                       "1,1", "1,2,3,4,5", "0,", ",0", ",", ";", "", "Up", "UP", "ups", "u", "True", "None", "zero")


def plain_key_text(key):
    if key[0] == "down":
        return "down " + plain_key_text(key[1])
    text = key[0] + " " + str(key[1])
    if len(key) == 2:
        return text
    return text + " " + str(key[2]).replace("(", "").replace(",)", "").replace(")", "").replace(", ", ",")


KEY_TEXTS = {plain_key_text(key): key for key in KEYS}


def plain_read(text):
    """The row of this text, or None: none of its keys' texts has a sign that stands between keys."""
    parts = text.split("; ") if text else []
    if len(parts) > 5 or any(part not in KEY_TEXTS for part in parts):
        return None
    return tuple(KEY_TEXTS[part] for part in parts)


def signs_changed(text, signs):
    """The text with one sign left out, said twice, put in or exchanged, or two neighbours exchanged."""
    for at in range(len(text) + 1):
        yield text[:at] + text[at + 1:]
        yield text[:at] + text[at:at + 1] + text[at:]
        yield text[:at] + text[at + 1:at + 2] + text[at:at + 1] + text[at + 2:]
        for sign in signs:
            yield text[:at] + sign + text[at:]
            yield text[:at] + sign + text[at + 1:]


def words_changed(text):
    """The text with one word left out, said twice, put in or exchanged, or two exchanged."""
    words = text.split(" ")
    for at in range(len(words) + 1):
        yield " ".join(words[:at] + words[at + 1:])
        yield " ".join(words[:at] + words[at:at + 1] + words[at:])
        for other in range(at):
            changed = words[:other] + words[at:at + 1] + words[other + 1:at] + words[other:other + 1] + words[at + 1:]
            yield " ".join(changed)
        for word in OTHER_WORDS:
            yield " ".join(words[:at] + [word] + words[at:])
            yield " ".join(words[:at] + [word] + words[at + 1:])
            yield " ".join(words[:at] + [word + ";"] + words[at + 1:])


class Written(unittest.TestCase):
    def test_each_kind_of_key_by_hand(self):
        for row, text in (
                ((), ""),
                ((("up", 0),), "up 0"),
                ((("part", 1, 2),), "part 1 2"),
                ((("rest", 2, 3),), "rest 2 3"),
                ((("table", 0, (5, 1, 3)),), "table 0 5,1,3"),
                ((("table", 1, (4,)),), "table 1 4"),
                ((("among", 2, (0, 2, 3, 5)),), "among 2 0,2,3,5"),
                ((("sum", 0, 1),), "sum 0 1"),
                ((("gap", 0, 2),), "gap 0 2"),
                ((("most", 1, 2),), "most 1 2"),
                ((("down", ("up", 2)),), "down up 2"),
                ((("down", ("table", 1, (2, 0))),), "down table 1 2,0"),
                ((("up", 0), ("up", 0)), "up 0; up 0"),
                (UPS, "up 0; up 1; up 2"),
                ((("down", ("most", 0, 1)), ("among", 0, (3,)), ("down", ("rest", 0, 2)), ("part", 0, 3), ("up", 1)),
                 "down most 0 1; among 0 3; down rest 0 2; part 0 3; up 1")):
            self.assertEqual(row_text(row), text)
            self.assertEqual(read_row(text), row)

    def test_all_keys(self):
        self.assertEqual(len(KEY_TEXTS), len(KEYS))
        for text, key in KEY_TEXTS.items():
            self.assertEqual(row_text((key,)), text)
            self.assertEqual(repr(read_row(text)), repr((key,)))

    def test_a_row_and_its_text_tell_one_another(self):
        chance = random.Random(10)
        rows = list(ROWS) + [tuple(chance.choice(KEYS) for step in range(many)) for many in (2, 3, 4, 5) * 100]
        for row in rows:
            text = row_text(row)
            self.assertEqual(text, "; ".join(plain_key_text(key) for key in row))
            self.assertEqual(repr(read_row(text)), repr(row))
            self.assertTrue(is_row(read_row(text)))
        self.assertEqual(len(set(map(row_text, rows))), len(set(rows)))

    def test_texts_of_rows_beyond_the_limits(self):
        self.assertEqual(row_text((("up", 3), ("part", 0, 10), ("sum", 2, 1), ("table", 0, (6, -1, 0, 1, 2)))),
                         "up 3; part 0 10; sum 2 1; table 0 6,-1,0,1,2")
        self.assertEqual(row_text(UPS + UPS), "up 0; up 1; up 2; up 0; up 1; up 2")
        self.assertEqual(row_text((("down", ("down", ("up", 0))),)), "down down up 0")


class Refused(unittest.TestCase):
    def refuse(self, text):
        with self.assertRaises(NoText, msg=text) as caught:
            read_row(text)
        self.assertIsInstance(caught.exception, OrderError)

    def test_by_hand(self):
        for text in (
                # blanks at the ends, said twice, or alone
                " ", "  ", " up 0", "up 0 ", "up  0", "up 0 ; up 1", "up 0;  up 1", "up 0;up 1", "down  up 0",
                "down up 0 ", " down up 0", "table 0 1, 2", "table 0 1 ,2", "table 0  1",
                # keys that are left out
                ";", "; ", "; ; ", "up 0;", "up 0; ", "; up 0", ";up 0", "up 0; ; up 1", "up 0 up 1", "up 0, up 1",
                # words left out, put in or exchanged
                "up", "0", "down", "down ", "part 0", "table", "table 0", "table 0 ", "among 1", "sum 0", "up 0 1",
                "part 0 2 2", "table 0 1 2", "table 0 1,2 3", "sum 0 1 2", "Up 0", "UP 0", "left 0", "up down 0",
                "up 0 down", "0 up", "up, 0", "up:0", "row up 0", "('up', 0)", '("up", 0)', "()", "None", "down 0",
                # numbers written otherwise
                "up 00", "up +0", "up -0", "up 0.", "up 0x0", "up 0_0", "up zero", "up False", "up 01", "part 0 02",
                "table 0 01", "table 0 1,02", "up 1e0", "up ''",
                # fields, divisors and worths beyond their limits
                "up 3", "up -1", "up 10", "part 0 1", "part 0 4", "part 0 0", "rest 0 5", "part 3 2", "table 3 1",
                "table 0 6", "table 0 -1", "table 0 1,6", "sum 0 3", "sum 1 0", "gap 1 1", "most 2 0", "sum 0 0",
                # worths of other forms, like ones, too many, or not rising
                "table 0 ,", "table 0 1,", "table 0 ,1", "table 0 1,,2", "table 0 1;2", "table 0 (1,2)", "table 0 1.2",
                "table 0 1,1", "table 0 1,2,1", "table 0 0,1,2,3,4", "among 0 1,1", "among 0 2,1", "among 0 0,2,1",
                "among 0 0,1,2,3,4", "down among 0 2,1", "among 0 1,", "up 0,1", "up 0,", "part 0 2,3", "part 0,1 2",
                "table 0,1 2", "sum 0,1", "sum 0 1,2", "table 0,1", "table ,0 1",
                # turned twice, and six keys
                "down down up 0", "down down down up 0", "up 0; down down table 0 1", "down down", "down down down",
                "up 0; up 0; up 0; up 0; up 0; up 0", "; ".join(["down up 1"] * 6), "; ".join(["up 0"] * 7)):
            self.refuse(text)

    def test_long_texts(self):
        for text in ("down " * 5000 + "up 0", "up " * 5000 + "0", "; " * 5000, " " * 5000, "up 0; " * 5000 + "up 0",
                     "table 0 " + "1," * 5000 + "1", "up " + "0" * 9000, "down" * 5000, "(" * 5000):
            self.refuse(text)

    def hold_against_plain(self, text):
        wanted = plain_read(text)
        if wanted is None:
            self.refuse(text)
        else:
            self.assertEqual(repr(read_row(text)), repr(wanted), text)

    def test_one_sign_changed(self):
        for text in ("", "up 0", "part 1 2", "rest 2 3", "table 0 5,1,3", "table 1 4", "among 2 0,2,5", "sum 0 1",
                     "gap 0 2", "most 1 2", "down up 2", "down among 1 2,4", "up 0; up 1"):
            for changed in signs_changed(text, SIGNS):
                self.hold_against_plain(changed)

    def test_one_sign_changed_of_all_rows(self):
        for row in ROWS:
            for changed in signs_changed(row_text(row), FEW_SIGNS):
                self.hold_against_plain(changed)

    def test_one_word_changed_of_all_rows(self):
        for row in ROWS:
            for changed in words_changed(row_text(row)):
                self.hold_against_plain(changed)

    def test_all_short_texts(self):
        for word in WORDS + ("",):
            for many in range(4):
                for signs in itertools.product(" 01,;", repeat=many):
                    self.hold_against_plain(word + "".join(signs))
                    self.hold_against_plain(word + " " + "".join(signs))

    def test_all_words_of_three(self):
        numbers = ("0", "1", "2", "3", "5", "6", "1,2", "2,1", "")
        for words in itertools.product(WORDS, WORDS + numbers, numbers):
            self.hold_against_plain(" ".join(words))
            self.hold_against_plain("down " + " ".join(words))

    def test_all_worths(self):
        for many in range(1, 4):
            for worths in itertools.product("0123456", repeat=many):
                for word in ("table 1 ", "among 1 ", "down among 0 "):
                    self.hold_against_plain(word + ",".join(worths))

    def test_how_many_keys(self):
        for many in range(9):
            self.hold_against_plain("; ".join(["down gap 0 1"] * many))


class AskedAgain(unittest.TestCase):
    def test_the_same_is_told_and_in_tuples(self):
        for row in ROWS:
            before = repr(row)
            answers = [(row_text(row), read_row(row_text(row))) for again in range(2)]
            self.assertEqual(repr(answers[0]), repr(answers[1]))
            self.assertTrue(is_of_told_kinds(answers[0]))
            self.assertEqual(repr(row), before)

    def test_a_refusal_is_told_again(self):
        for again in range(2):
            with self.assertRaises(NoText):
                read_row("up 3")
            self.assertEqual(read_row("up 2"), (("up", 2),))
