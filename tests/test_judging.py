"""[0.2](a) to (c), [0.3], [2.1], [2.2], [2.3]."""

import itertools
import unittest

from keyorders.judging import (alike, classes, deciders, form, is_whole_order, keeps, needless, parting, short, silent,
                               tie, ties_of, unkept)
from keyorders.keys import told, turned
from tests.helper import PAIRS, ROWS, THINGS, UPS, is_of_told_kinds, plain_all_told, plain_form, plain_worth

TOLD = {row: plain_all_told(row) for row in ROWS}
ROW_PAIRS = tuple(itertools.product(ROWS, repeat=2))


def least(wanted):
    """The first pair of which it is wanted; PAIRS stand rising, the lesser first."""
    return next((pair for pair, is_wanted in zip(PAIRS, wanted) if is_wanted), None)


def left_out(row, at):
    return tuple(key for place, key in enumerate(row) if place != at)


class Form(unittest.TestCase):
    def test_by_hand(self):
        self.assertEqual(form(()), (0,) * 216)
        self.assertEqual(form(UPS), tuple(range(216)))
        self.assertEqual(form((("up", 2),)), (0, 1, 2, 3, 4, 5) * 36)
        self.assertEqual(form((("down", ("up", 0)),)), tuple(5 - at // 36 for at in range(216)))
        self.assertEqual(form((("part", 1, 3), ("rest", 0, 2)))[:72], ((0,) * 18 + (2,) * 18 + (1,) * 18 + (3,) * 18))

    def test_all_rows(self):
        for row in ROWS:
            self.assertEqual(form(row), plain_form(row), row)

    def test_it_tells_what_told_tells(self):
        for row in ROWS:
            ranks = dict(zip(THINGS, form(row)))
            for one, other in PAIRS[::13]:
                self.assertEqual(told(row, one, other), (ranks[one] > ranks[other]) - (ranks[one] < ranks[other]))

    def test_a_turned_row_has_the_form_reversed(self):
        for row in ROWS:
            most = max(form(row))
            self.assertEqual(form(turned(row)), tuple(most - rank for rank in form(row)))


class TwoRows(unittest.TestCase):
    def test_rows_that_tell_the_same_with_other_keys(self):
        up = (("up", 0),)
        for row in ((("part", 0, 2), ("rest", 0, 2)), (("part", 0, 3), ("up", 0)), (("up", 0), ("up", 0)),
                    (("up", 0), ("down", ("up", 0))), (("table", 0, (0, 1, 2, 3)), ("up", 0)),
                    (("down", ("table", 0, (5, 4, 3, 2))), ("up", 0))):
            self.assertIs(alike(up, row), True, row)
            self.assertIs(alike(row, up), True, row)
            self.assertIsNone(parting(up, row))
            self.assertIsNone(unkept(up, row))
            self.assertIs(keeps(row, up), True)

    def test_pairs_by_hand(self):
        self.assertEqual(parting((), (("up", 1),)), ((0, 0, 0), (0, 1, 0)))
        self.assertEqual(parting((("up", 0),), (("down", ("up", 0)),)), ((0, 0, 0), (1, 0, 0)))
        self.assertEqual(parting((("up", 0),), (("table", 0, (0, 1, 2, 3)),)), ((4, 0, 0), (5, 0, 0)))
        self.assertIsNone(parting((), ()))
        self.assertEqual(unkept((), (("up", 0),)), ((0, 0, 0), (1, 0, 0)))
        self.assertIsNone(unkept((("up", 0),), ()))
        self.assertIs(keeps((("up", 0),), ()), True)
        self.assertIs(keeps((), (("up", 0),)), False)
        self.assertIsNone(unkept((("up", 0),), (("part", 0, 2),)))
        self.assertEqual(unkept((("part", 0, 2),), (("up", 0),)), ((0, 0, 0), (1, 0, 0)))
        self.assertEqual(unkept((("table", 0, (0, 1, 2, 3)),), (("up", 0),)), ((4, 0, 0), (5, 0, 0)))
        self.assertEqual(unkept((("down", ("up", 2)),), (("up", 2),)), ((0, 0, 0), (0, 0, 1)))

    def test_all_pairs_of_rows(self):
        for one, other in ROW_PAIRS:
            ones, others = TOLD[one], TOLD[other]
            pair = least(a != b for a, b in zip(ones, others))
            self.assertEqual(parting(one, other), pair, (one, other))
            self.assertIs(alike(one, other), pair is None, (one, other))
            lost = least(b != 0 and a != b for a, b in zip(ones, others))
            self.assertEqual(unkept(one, other), lost, (one, other))
            self.assertIs(keeps(one, other), lost is None, (one, other))


class Ties(unittest.TestCase):
    def test_by_hand(self):
        self.assertEqual((classes(()), tie(()), is_whole_order(()), ties_of(())),
                         (1, ((0, 0, 0), (0, 0, 1)), False, 23220))
        self.assertEqual((classes(UPS), tie(UPS), is_whole_order(UPS), ties_of(UPS)), (216, None, True, 0))
        row = (("up", 2), ("up", 1))
        self.assertEqual((classes(row), tie(row), is_whole_order(row), ties_of(row)),
                         (36, ((0, 0, 0), (1, 0, 0)), False, 36 * 15))
        row = (("sum", 1, 2), ("up", 0))
        self.assertEqual((classes(row), tie(row)), (66, ((0, 0, 1), (0, 1, 0))))
        row = (("sum", 0, 1), ("gap", 0, 1), ("up", 0), ("up", 2))
        self.assertIs(is_whole_order(row), True)

    def test_all_rows(self):
        for row in ROWS:
            tied = [told_of == 0 for told_of in TOLD[row]]
            self.assertEqual(classes(row), len(set(plain_form(row))), row)
            self.assertEqual(tie(row), least(tied), row)
            self.assertIs(is_whole_order(row), not any(tied), row)
            self.assertEqual(ties_of(row), sum(tied), row)


class NeededKeys(unittest.TestCase):
    def test_deciders_by_hand(self):
        self.assertEqual(deciders(()), ())
        self.assertEqual(deciders(UPS), (36 * 36 * 15, 6 * 36 * 15, 36 * 15))
        self.assertEqual(deciders((("up", 0), ("up", 0))), (19440, 0))
        self.assertEqual(deciders((("part", 0, 3), ("up", 0))), (108 * 108, 19440 - 108 * 108))

    def test_silent_and_needless_by_hand(self):
        for row, silents, needlesses, left in (
                ((), (), (), ()),
                (UPS, (), (), UPS),
                ((("up", 0), ("up", 0)), (1,), (0, 1), (("up", 0),)),
                ((("up", 0), ("down", ("up", 0))), (1,), (1,), (("up", 0),)),
                ((("part", 0, 2), ("up", 0)), (), (0,), (("up", 0),)),
                ((("part", 0, 2), ("rest", 0, 2)), (), (), (("part", 0, 2), ("rest", 0, 2))),
                ((("part", 0, 2), ("rest", 0, 2), ("up", 0)), (2,), (1, 2), (("part", 0, 2), ("rest", 0, 2))),
                ((("up", 1), ("part", 1, 2), ("up", 0), ("sum", 0, 1)), (1, 3), (1, 2, 3), (("up", 1), ("up", 0))),
                (UPS + (("gap", 0, 1), ("most", 0, 2)), (3, 4), (3, 4), UPS)):
            self.assertEqual(silent(row), silents, row)
            self.assertEqual(needless(row), needlesses, row)
            self.assertEqual(short(row), left, row)

    def test_all_rows(self):
        for row in ROWS:
            decided = [0] * len(row)
            for one, other in PAIRS:
                for at, key in enumerate(row):
                    if plain_worth(key, one) != plain_worth(key, other):
                        decided[at] += 1
                        break
            self.assertEqual(deciders(row), tuple(decided), row)
            self.assertEqual(silent(row), tuple(at for at, many in enumerate(decided) if many == 0), row)
            can_go = tuple(at for at in range(len(row)) if plain_all_told(left_out(row, at)) == TOLD[row])
            self.assertEqual(needless(row), can_go, row)

    def test_short_goes_from_the_last_key_on(self):
        for row in ROWS:
            left = row
            for at in range(len(row) - 1, -1, -1):
                if plain_all_told(left_out(left, at)) == TOLD[row]:
                    left = left_out(left, at)
            self.assertEqual(short(row), left, row)

    def test_what_can_go_and_what_stays(self):
        for row in ROWS:
            for at in silent(row):
                self.assertIn(at, needless(row))
            self.assertTrue(alike(short(row), row))
            self.assertEqual(needless(short(row)), ())


class Beyond(unittest.TestCase):
    def test_six_keys(self):
        row = (("part", 0, 2), ("part", 0, 3)) + UPS + (("gap", 1, 2),)
        self.assertEqual(len(deciders(row)), 6)
        self.assertEqual(silent(row), (5,))
        self.assertEqual(needless(row), (0, 1, 5))
        self.assertEqual(short(row), UPS)
        self.assertEqual(parting(row, ()), ((0, 0, 0), (0, 0, 1)))


class AskedAgain(unittest.TestCase):
    def test_the_same_is_told_and_in_tuples(self):
        other = ROWS[-1]
        for row in ROWS:
            before = repr((row, other))
            answers = []
            for again in range(2):
                told_of_one = [ask(row) for ask in (form, classes, tie, is_whole_order, ties_of, deciders, silent,
                                                    needless, short)]
                answers.append(told_of_one + [ask(row, other) for ask in (alike, parting, unkept, keeps)])
            self.assertEqual(repr(answers[0]), repr(answers[1]))
            self.assertTrue(all(is_of_told_kinds(answer) for answer in answers[0]))
            self.assertEqual(repr((row, other)), before)
