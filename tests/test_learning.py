"""[0.2](g), [0.3], [6.1]."""

import itertools
import unittest

from keyorders.learning import agreeing, plain_keys, told_by, unlike_rows
from tests.helper import LISTS, ROWS, THINGS, UPS, is_of_told_kinds, plain_all_told, plain_told, plain_worth

KEYS = (("up", 0), ("up", 1), ("up", 2), ("down", ("up", 0)), ("down", ("up", 1)), ("down", ("up", 2)),
        ("rest", 0, 2), ("rest", 1, 2), ("rest", 2, 2), ("part", 0, 2), ("part", 1, 2), ("part", 2, 2),
        ("sum", 0, 1), ("sum", 0, 2), ("sum", 1, 2))
TRIED = tuple((key,) for key in KEYS) + tuple(itertools.permutations(KEYS, 2))
SHORT_LISTS = tuple(things[:many] for things in LISTS for many in (2, 3, 5)) + LISTS


def plain_is_ordered(row, things):
    return all(plain_told(row, one, other) < 1 for one, other in zip(things, things[1:]))


def plain_told_by(lists):
    return tuple(row for row in TRIED if all(plain_is_ordered(row, things) for things in lists))


class PlainKeys(unittest.TestCase):
    def test_all_in_this_order(self):
        self.assertEqual(plain_keys(), KEYS)
        self.assertEqual(len(plain_keys()), 15)


class Agreeing(unittest.TestCase):
    def test_none_and_one_thing(self):
        self.assertEqual(len(TRIED), 225)
        self.assertEqual(agreeing(()), TRIED)
        self.assertEqual(agreeing(((3, 1, 4),)), TRIED)
        self.assertEqual(agreeing(((3, 1, 4),) * 3), TRIED)

    def test_by_hand(self):
        things = ((0, 0, 0), (1, 0, 0))
        for row in ((("up", 0),), (("up", 1),), (("rest", 0, 2),), (("part", 0, 2),), (("sum", 0, 1),),
                    (("up", 1), ("up", 0)), (("part", 0, 2), ("rest", 0, 2)), (("up", 0), ("down", ("up", 0)))):
            self.assertIn(row, agreeing(things))
        for row in ((("down", ("up", 0)),), (("up", 1), ("down", ("up", 0))), (("down", ("up", 0)), ("up", 0)),
                    (("up", 0), ("up", 0)), (("gap", 0, 1),), (), UPS):
            self.assertNotIn(row, agreeing(things))

    def test_by_no_row(self):
        # Field by field the worths go up and down again, by one and by two, so that no key speaks for the list.
        things = ((0, 0, 0), (1, 1, 1), (0, 0, 0), (5, 5, 5), (2, 2, 2), (0, 0, 0))
        self.assertEqual(agreeing(things), ())

    def test_lists(self):
        for things in SHORT_LISTS:
            self.assertEqual(agreeing(things), plain_told_by((things,)), things)

    def test_lists_in_order(self):
        for row in TRIED[::8]:
            things = tuple(sorted(THINGS[::17], key=lambda thing: [plain_worth(key, thing) for key in row]))
            self.assertIn(row, agreeing(things))
            self.assertEqual(agreeing(things), plain_told_by((things,)))


class ToldBy(unittest.TestCase):
    def test_by_hand(self):
        up, down = ((0, 0, 0), (1, 0, 0)), ((1, 0, 0), (0, 0, 0))
        self.assertEqual(told_by((up,)), agreeing(up))
        self.assertEqual(told_by(((), ())), TRIED)
        self.assertIn((("up", 1),), told_by((up, down)))
        self.assertNotIn((("up", 0),), told_by((up, down)))
        self.assertNotIn((("up", 1), ("up", 0)), told_by((up, down)))
        # Each list alone is in order; one behind the other they would not be.
        self.assertIn((("up", 0),), told_by((up, up)))

    def test_lists(self):
        for lists in [SHORT_LISTS[at:at + many] for at in range(0, len(SHORT_LISTS), 3) for many in (1, 2, 3)]:
            self.assertEqual(told_by(lists), plain_told_by(lists), lists)
            found = [agreeing(things) for things in lists]
            self.assertEqual(told_by(lists), tuple(row for row in TRIED if all(row in rows for rows in found)))

    def test_beyond(self):
        self.assertEqual(told_by(()), TRIED)


class UnlikeRows(unittest.TestCase):
    def test_by_hand(self):
        up, parts, twice = (("up", 0),), (("part", 0, 2), ("rest", 0, 2)), (("up", 0), ("up", 0))
        other = (("up", 1),)
        for rows, left in (((), ()), ((up,), (up,)), ((up, up), (up,)), ((up, parts, twice), (up,)),
                           ((parts, up), (parts,)), ((twice, other, up, other), (twice, other)), (((), up), ((), up)),
                           ((other, up), (other, up)), ((UPS, UPS + up, up), (UPS, up)),
                           ((up, (("down", ("up", 0)),)), (up, (("down", ("up", 0)),)))):
            self.assertEqual(unlike_rows(rows), left, rows)

    def test_rows(self):
        for rows in (ROWS, ROWS[::-1], ROWS + ROWS, ROWS[5:] + ROWS[:5]):
            kept, seen = [], []
            for row in rows:
                if plain_all_told(row) not in seen:
                    kept.append(row)
                    seen.append(plain_all_told(row))
            self.assertEqual(unlike_rows(rows), tuple(kept))

    def test_rows_that_were_found(self):
        found = agreeing(((0, 0, 0), (0, 1, 0), (1, 1, 0)))
        left = unlike_rows(found)
        self.assertLess(len(left), len(found))
        self.assertEqual(unlike_rows(left), left)


class AskedAgain(unittest.TestCase):
    def test_the_same_is_told_and_in_tuples(self):
        for things in LISTS[::3]:
            before = repr((things, ROWS))
            answers = [(plain_keys(), agreeing(things), told_by((things, things[:1])), unlike_rows(ROWS))
                       for again in range(2)]
            self.assertEqual(repr(answers[0]), repr(answers[1]))
            self.assertTrue(is_of_told_kinds(answers[0]))
            self.assertEqual(repr((things, ROWS)), before)
