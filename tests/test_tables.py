"""[0.2](e), [0.3], [4.1]."""

import copy
import itertools
import random
import unittest

from keyorders.tables import is_table, is_why_none, ranks, table_of, why_none
from tests.helper import LISTS, ODD, ROWS, THINGS, UPS, is_of_told_kinds, plain_told, spoilt

SIGNS = (-1, 0, 1)
WRITTEN_ROWS = {many: frozenset(repr(row) for row in itertools.product(SIGNS, repeat=many)) for many in range(7)}


def sign(one, other):
    return (one > other) - (one < other)


def tables_with_places(many):
    """All tables of so many that tell places, with these: made from the places, not looked for."""
    found = {}
    for told_places in itertools.product(range(many), repeat=many):
        if set(told_places) == set(range(max(told_places) + 1)):
            found[tuple(tuple(sign(one, other) for other in told_places) for one in told_places)] = told_places
    return found


PLACES = {many: tables_with_places(many) for many in range(1, 7)}
SMALL = tuple(table for many in (1, 2, 3)
              for table in itertools.product(itertools.product(SIGNS, repeat=many), repeat=many))
CIRCLE = ((0, -1, 1), (1, 0, -1), (-1, 1, 0))


def some_large():
    """Tables of 4 to 6: with places, and with one number, or two that answer one another, exchanged."""
    chance = random.Random(41)
    found = []
    for many in (4, 5, 6):
        for table in chance.sample(sorted(PLACES[many]), 60):
            k, n, put = chance.randrange(many), chance.randrange(many), chance.choice(SIGNS)
            one, two = [list(row) for row in table], [list(row) for row in table]
            one[k][n] = two[k][n] = put
            two[n][k] = -put
            found += [table, tuple(map(tuple, one)), tuple(map(tuple, two))]
    return tuple(found)


LARGE = some_large()


def plain_is_table(thing):
    return isinstance(thing, tuple) and 1 <= len(thing) <= 6 and all(repr(row) in WRITTEN_ROWS[len(thing)]
                                                                     for row in thing)


def plain_papers(table):
    """All papers, written out, so that truths and lists are not taken for numbers and tuples."""
    found = set()
    for k, n in itertools.product(range(len(table)), repeat=2):
        if table[k][n] + table[n][k] != 0:
            found.add(repr(("odd", k, n)))
        for m in range(len(table)):
            if 1 not in (table[k][n], table[n][m]) and table[k][m] != min(table[k][n], table[n][m]):
                found.add(repr(("chain", k, n, m)))
    return found


class IsTable(unittest.TestCase):
    def assert_same(self, thing):
        before = copy.deepcopy(thing)
        self.assertIs(is_table(thing), plain_is_table(thing), repr(thing))
        self.assertIs(is_table(thing), plain_is_table(thing), repr(thing))
        self.assertEqual(repr(thing), repr(before))

    def test_edges(self):
        for thing in (((0,),), ((1,),), ((-1,),), ((0, 1), (1, 0)), CIRCLE, ((0,) * 6,) * 6, ((1,) * 6,) * 6):
            self.assertIs(is_table(thing), True, thing)
        for thing in ((), ((),), ((0, 0),), ((0,), (0,)), ((0, 0), (0,)), ((0, 0), (0, 0, 0)), ((2,),), ((-2,),),
                      ((True,),), ((False,),), ((None,),), (("0",),), [[0]], ([0],), [(0,)], ((0,) * 7,) * 7, 0, None,
                      "0", (0,), ((0, 0), [0, 0]), ((0, 0), (0, False)), ((0, 0), 0), ((0, 0), "00"), (((0,),),)):
            self.assertIs(is_table(thing), False, thing)

    def test_any_things(self):
        for thing in SMALL + LARGE:
            self.assertIs(is_table(thing), True, thing)
        nested = list(ODD) + [(odd,) for odd in ODD] + [((odd,),) for odd in ODD] + [[[odd]] for odd in ODD]
        nested += [((odd, 0), (0, other)) for odd in ODD for other in ODD]
        for thing in nested + spoilt(((0, -1), (1, 0))) + spoilt(CIRCLE) + spoilt(((0,),)):
            self.assert_same(thing)


class TableOf(unittest.TestCase):
    def test_by_hand(self):
        self.assertEqual(table_of(UPS, ((1, 2, 3),)), ((0,),))
        self.assertEqual(table_of((("up", 0),), ((1, 0, 0), (0, 0, 0), (1, 5, 5))), ((0, 1, 0), (-1, 0, -1), (0, 1, 0)))
        self.assertEqual(table_of((), ((1, 0, 0), (0, 0, 0))), ((0, 0), (0, 0)))

    def test_rows_and_lists(self):
        for row, things in itertools.product(ROWS, LISTS):
            things = things[:6]
            table = table_of(row, things)
            self.assertEqual(table, tuple(tuple(plain_told(row, one, other) for other in things) for one in things))
            if things:
                self.assertIs(is_table(table), True)
                kinds = [thing for at, thing in enumerate(things)
                         if all(plain_told(row, thing, other) for other in things[:at])]
                self.assertEqual(ranks(table), tuple(sum(plain_told(row, kind, thing) == -1 for kind in kinds)
                                                     for thing in things))
                self.assertIsNone(why_none(table))


class Ranks(unittest.TestCase):
    def test_by_hand(self):
        for table, told_places in ((((0,),), (0,)), (((0, 0), (0, 0)), (0, 0)), (((0, -1), (1, 0)), (0, 1)),
                                   (((0, 1), (-1, 0)), (1, 0)), (((0, 1, 1), (-1, 0, 0), (-1, 0, 0)), (1, 0, 0)),
                                   (((0, 1, 1), (-1, 0, 1), (-1, -1, 0)), (2, 1, 0)), (((0,) * 6,) * 6, (0,) * 6)):
            self.assertEqual(ranks(table), told_places, table)
            self.assertIsNone(why_none(table), table)

    def test_no_places_by_hand(self):
        for table in (((1,),), ((-1,),), ((0, 1), (1, 0)), ((0, -1), (0, 0)), CIRCLE,
                      ((0, 0, -1), (0, 0, 0), (1, 0, 0)), ((0, 0, 0), (0, 0, -1), (0, 1, 0))):
            self.assertIsNone(ranks(table), table)
            self.assertIs(is_why_none(table, why_none(table)), True, table)

    def test_places_or_a_paper(self):
        for table in SMALL + LARGE + tuple(PLACES[4]) + tuple(PLACES[5]) + tuple(PLACES[6])[::9]:
            told_places, paper = PLACES[len(table)].get(table), why_none(table)
            self.assertEqual(ranks(table), told_places, table)
            if told_places is None:
                self.assertIn(repr(paper), plain_papers(table), table)
            else:
                self.assertIsNone(paper, table)
                self.assertEqual(plain_papers(table), set())


class Papers(unittest.TestCase):
    def test_by_hand(self):
        table = ((0, 1), (1, 0))
        for thing in (("odd", 0, 1), ("odd", 1, 0)):
            self.assertIs(is_why_none(table, thing), True, thing)
        for thing in (("odd", 0, 0), ("odd", 1, 1), ("chain", 0, 1, 0), ("odd", 0, 2), ("odd", 0, -1), ("odd", -2, -1),
                      ("odd", False, 1), ("odd", 0, True), ["odd", 0, 1], ("odd", 0), ("odd", 0, 1, 0), ("even", 0, 1),
                      (0, 1), ("odd", (0, 1)), ("odd", "0", "1"), ("odd", [0], 1), ([], 0, 1), (), None, "odd",
                      ("odd",), (("odd", 0, 1),), (None, 0, 1), 0, True):
            self.assertIs(is_why_none(table, thing), False, thing)
        self.assertIs(is_why_none(((1,),), ("odd", 0, 0)), True)
        self.assertIs(is_why_none(((-1,),), ("odd", 0, 0)), True)
        self.assertIs(is_why_none(((0,),), ("odd", 0, 0)), False)

    def test_chains_by_hand(self):
        for thing in (("chain", 0, 1, 2), ("chain", 1, 2, 0), ("chain", 2, 0, 1)):
            self.assertIs(is_why_none(CIRCLE, thing), True, thing)
        for thing in (("chain", 0, 2, 1), ("chain", 0, 0, 1), ("chain", 0, 1, 3), ("chain", 0, 1, -1), ("chain", 0, 1),
                      ("chain", 0, True, 2), ["chain", 0, 1, 2], ("odd", 0, 1, 2), ("odd", 0, 1)):
            self.assertIs(is_why_none(CIRCLE, thing), False, thing)
        # 0 and 0 lead to 0; -1 and 0, either way round, lead to -1.
        self.assertIs(is_why_none(((0, 0, -1), (0, 0, 0), (1, 0, 0)), ("chain", 0, 1, 2)), True)
        self.assertIs(is_why_none(((0, -1, 0), (1, 0, 0), (0, 0, 0)), ("chain", 0, 1, 2)), True)
        self.assertIs(is_why_none(((0, 0, 0), (0, 0, -1), (0, 1, 0)), ("chain", 0, 1, 2)), True)
        self.assertIs(is_why_none(((0, 0, -1), (0, 0, -1), (1, 1, 0)), ("chain", 0, 1, 2)), False)

    def test_all_that_could_be_one(self):
        for table in SMALL[:84] + SMALL[84::89] + LARGE[::29]:
            numbers = (-1,) + tuple(range(len(table) + 1)) + (True,)
            found = plain_papers(table)
            things = [("odd", k, n) for k, n in itertools.product(numbers, repeat=2)]
            things += [("chain", k, n, m) for k, n, m in itertools.product(numbers, repeat=3)]
            for thing in things:
                self.assertIs(is_why_none(table, thing), repr(thing) in found, (table, thing))

    def test_any_things(self):
        for table in (((0,),), ((1,),), ((0, 1), (1, 0)), CIRCLE):
            found = plain_papers(table)
            things = list(ODD) + list(itertools.product(("odd", "chain"), ODD, ODD))
            for paper in (("odd", 0, 0), ("odd", 0, 1), ("chain", 0, 1, 2)):
                things += spoilt(paper)
            for thing in things:
                before = repr(thing)
                self.assertIs(is_why_none(table, thing), before in found, (table, thing))
                self.assertEqual(repr(thing), before)


class Beyond(unittest.TestCase):
    def test_no_error(self):
        for table in ((), ((0,) * 7,) * 7, ((0, 2), (-2, 0)), ((3,),), ((0,), (0,)), ((0, 0),), ((), ()),
                      ((0, 1), (0,)), ((0, -2, -1), (1, 0, 2), (1, -2, 0))):
            paper = why_none(table)
            self.assertIs(ranks(table) is None, paper is not None, table)
            self.assertIs(is_why_none(table, paper), paper is not None, table)
            self.assertIs(is_why_none(table, ("odd", 9, 9)), False)
            self.assertIs(is_why_none(table, ("chain", 0, 1, 9)), False)

    def test_none_and_seven_things(self):
        self.assertEqual(table_of(UPS, ()), ())
        table = table_of(UPS, THINGS[:7])
        self.assertEqual([len(row) for row in table], [7] * 7)
        self.assertEqual(ranks(table), (0, 1, 2, 3, 4, 5, 6))


class AskedAgain(unittest.TestCase):
    def test_the_same_is_told_and_in_tuples(self):
        for table in SMALL[::11] + LARGE:
            before = repr(table)
            answers = [(ranks(table), why_none(table), is_table(table), is_why_none(table, why_none(table)))
                       for again in range(2)]
            self.assertEqual(repr(answers[0]), repr(answers[1]))
            self.assertTrue(is_of_told_kinds(answers[0]))
            self.assertEqual(repr(table), before)
