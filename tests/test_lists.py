"""[0.2](d), [0.3], [3.1], [3.2], [3.3]."""

import functools
import itertools
import unittest

from keyorders.keys import worths
from keyorders.lists import (best, crossings, first_place, groups, is_ordered, last_place, list_told, merged, ordered,
                             places, runs, turns)
from tests.helper import LISTS, ROWS, THINGS, is_of_told_kinds, plain_told

UP = (("up", 0),)
A0, A1, A2 = (0, 0, 0), (0, 0, 1), (0, 0, 2)
B0, B1 = (1, 0, 0), (1, 0, 1)
C0, C1 = (2, 0, 0), (2, 0, 1)
CASES = tuple(itertools.product(ROWS, LISTS))


def plain_places(row, things):
    """Put in one by one, each behind all that do not come behind it."""
    found = []
    for at, thing in enumerate(things):
        place = len(found)
        while place > 0 and plain_told(row, things[found[place - 1]], thing) == 1:
            place -= 1
        found.insert(place, at)
    return tuple(found)


def plain_ordered(row, things):
    return tuple(things[at] for at in plain_places(row, things))


def plain_merged(row, ones, others):
    ones, others, found = list(ones), list(others), []
    while ones and others:
        found.append(ones.pop(0) if plain_told(row, ones[0], others[0]) < 1 else others.pop(0))
    return tuple(found + ones + others)


def plain_turns(row, things):
    pieces, found = list(runs(row, things)), []
    while len(pieces) > 1:
        pieces = [functools.reduce(functools.partial(plain_merged, row), pieces[at:at + 2])
                  for at in range(0, len(pieces), 2)]
        found.append(sum(pieces, ()))
    return tuple(found)


class PutInOrder(unittest.TestCase):
    def test_by_hand(self):
        things = (B1, A1, C0, A0, B0, A1)
        self.assertEqual(places(UP, things), (1, 3, 5, 0, 4, 2))
        self.assertEqual(ordered(UP, things), (A1, A0, A1, B1, B0, C0))
        self.assertEqual(places((("down", ("up", 0)),), things), (2, 0, 4, 1, 3, 5))
        self.assertEqual(places((), things), (0, 1, 2, 3, 4, 5))
        self.assertEqual((places(UP, ()), ordered(UP, ())), ((), ()))
        self.assertEqual((places(UP, (C1,)), ordered(UP, (C1,))), ((0,), (C1,)))
        self.assertEqual((places(UP, (B0, B0, B0)), ordered(UP, (B0,) * 3)), ((0, 1, 2), (B0,) * 3))

    def test_rows_and_lists(self):
        for row, things in CASES:
            self.assertEqual(places(row, things), plain_places(row, things), (row, things))
            self.assertEqual(ordered(row, things), plain_ordered(row, things), (row, things))
            self.assertEqual(sorted(ordered(row, things)), sorted(things))

    def test_is_ordered(self):
        for things, answer in (((), True), ((B0,), True), ((B0, B0), True), ((A0, B0), True), ((B0, A0), False),
                               ((B1, B0), True), ((A0, C0, B0), False), ((A0, B0, C0, C1), True),
                               ((B0, C0, A0), False)):
            self.assertIs(is_ordered(UP, things), answer, things)
        self.assertIs(is_ordered((), (C0, B0, A0)), True)
        for row, things in CASES:
            self.assertIs(is_ordered(row, things), plain_ordered(row, things) == things, (row, things))
            self.assertIs(is_ordered(row, ordered(row, things)), True)


class RunsAndCrossings(unittest.TestCase):
    def test_runs_by_hand(self):
        self.assertEqual(runs(UP, ()), ())
        self.assertEqual(runs(UP, (A0,)), ((A0,),))
        self.assertEqual(runs(UP, (A1, A0, A1)), ((A1, A0, A1),))
        self.assertEqual(runs(UP, (A0, B0, A1, C0, C1, B1, A2)), ((A0, B0), (A1, C0, C1), (B1,), (A2,)))

    def test_runs_of_rows_and_lists(self):
        for row, things in CASES:
            found = runs(row, things)
            self.assertEqual(sum(found, ()), things)
            for run in found:
                self.assertTrue(run)
                self.assertTrue(all(plain_told(row, one, other) < 1 for one, other in zip(run, run[1:])))
            for run, later in zip(found, found[1:]):
                self.assertEqual(plain_told(row, run[-1], later[0]), 1)

    def test_crossings(self):
        for things, many in (((), 0), ((A0,), 0), ((B0, A0), 1), ((A0, B0), 0), ((C0, B0, A0), 3), ((A1, A0), 0),
                             ((B0, A0, B1, A1), 3)):
            self.assertEqual(crossings(UP, things), many, things)
        for row, things in CASES:
            many = sum(plain_told(row, later, thing) == -1 for thing, later in itertools.combinations(things, 2))
            self.assertEqual(crossings(row, things), many, (row, things))


class LedTogether(unittest.TestCase):
    def test_merged_by_hand(self):
        self.assertEqual(merged(UP, (), ()), ())
        self.assertEqual(merged(UP, (A0,), ()), (A0,))
        self.assertEqual(merged(UP, (), (A0,)), (A0,))
        self.assertEqual(merged(UP, (A1, C1), (A0, B0, C0)), (A1, A0, B0, C1, C0))
        self.assertEqual(merged(UP, (A0, B0, C0), (A1, C1)), (A0, A1, B0, C0, C1))
        self.assertEqual(merged((), (C0, A0), (B0, A0)), (C0, A0, B0, A0))

    def test_merged_of_rows_and_lists(self):
        for row in ROWS:
            for ones, others in itertools.product(LISTS[::3], LISTS[::4]):
                ones, others = plain_ordered(row, ones), plain_ordered(row, others)
                self.assertEqual(merged(row, ones, others), plain_merged(row, ones, others), (row, ones, others))

    def test_turns_by_hand(self):
        self.assertEqual(turns(UP, ()), ())
        self.assertEqual(turns(UP, (A0,)), ())
        self.assertEqual(turns(UP, (A1, A0, B0)), ())
        self.assertEqual(turns(UP, (B0, A0)), ((A0, B0),))
        self.assertEqual(turns(UP, (C0, B0, A0)), ((B0, C0, A0), (A0, B0, C0)))
        self.assertEqual(turns(UP, (C0, B0, B1, A0, A1, C1, A2)),
                         ((B0, B1, C0, A0, A1, A2, C1), (A0, A1, A2, B0, B1, C0, C1)))
        five = ((4, 0, 0), (3, 0, 0), C0, B0, A0)
        self.assertEqual(turns(UP, five), (((3, 0, 0), (4, 0, 0), B0, C0, A0), (B0, C0, (3, 0, 0), (4, 0, 0), A0),
                                           (A0, B0, C0, (3, 0, 0), (4, 0, 0))))

    def test_turns_of_rows_and_lists(self):
        for row, things in CASES:
            found = turns(row, things)
            self.assertEqual(found, plain_turns(row, things), (row, things))
            self.assertEqual(found[-1:], (plain_ordered(row, things),) if len(runs(row, things)) > 1 else ())


class PlacesInOrder(unittest.TestCase):
    def test_by_hand(self):
        things = (A0, B0, B1, C0)
        for thing, first, last in ((A2, 0, 1), (B0, 1, 3), (C1, 3, 4), ((3, 0, 0), 4, 4)):
            self.assertEqual(first_place(UP, things, thing), first, thing)
            self.assertEqual(last_place(UP, things, thing), last, thing)
        self.assertEqual((first_place(UP, (B0,), A0), last_place(UP, (B0,), A0)), (0, 0))
        self.assertEqual((first_place(UP, (), A0), last_place(UP, (), A0)), (0, 0))
        self.assertEqual((first_place((), things, A0), last_place((), things, A0)), (0, 4))

    def test_rows_and_lists(self):
        for row, things in CASES:
            things = plain_ordered(row, things)
            for thing in things[:3] + THINGS[::60]:
                told_of = [plain_told(row, other, thing) for other in things]
                self.assertEqual(first_place(row, things, thing), told_of.count(-1))
                self.assertEqual(last_place(row, things, thing), told_of.count(-1) + told_of.count(0))


class GroupsAndBest(unittest.TestCase):
    def test_groups_by_hand(self):
        self.assertEqual(groups(UP, ()), ())
        self.assertEqual(groups(UP, (B0,)), ((B0,),))
        self.assertEqual(groups(UP, (B0, A1, C0, A0, B0)), ((A1, A0), (B0, B0), (C0,)))
        self.assertEqual(groups((), (B0, A1, C0)), ((B0, A1, C0),))

    def test_groups_of_rows_and_lists(self):
        for row, things in CASES:
            plain = tuple(tuple(group) for told_of, group in
                          itertools.groupby(plain_ordered(row, things), lambda thing: worths(row, thing)))
            self.assertEqual(groups(row, things), plain, (row, things))

    def test_best_by_hand(self):
        things = (B0, A1, C0, A0, B1)
        for many, chosen in ((0, ()), (1, (A1, A0)), (2, (A1, A0)), (3, (A1, A0, B0, B1)), (4, (A1, A0, B0, B1)),
                             (5, (A1, A0, B0, B1, C0)), (6, (A1, A0, B0, B1, C0)), (99, (A1, A0, B0, B1, C0))):
            self.assertEqual(best(UP, things, many), chosen, many)
        self.assertEqual((best(UP, (), 0), best(UP, (), 3)), ((), ()))
        self.assertEqual((best((), things, 0), best((), things, 1)), ((), things))
        self.assertEqual(best(UP, things, -1), ())

    def test_best_of_rows_and_lists(self):
        for row, things in CASES:
            whole = plain_ordered(row, things)
            for many in range(len(things) + 2):
                end = many
                while 0 < end < len(whole) and plain_told(row, whole[end - 1], whole[end]) == 0:
                    end += 1
                self.assertEqual(best(row, things, many), whole[:end], (row, things, many))


class ListTold(unittest.TestCase):
    def test_by_hand(self):
        for ones, others, answer in (((), (), 0), ((), (A0,), -1), ((A0,), (), 1), ((A0,), (A1,), 0),
                                     ((A0, B0), (A1,), 1), ((A0,), (A1, B0), -1), ((A0, C0), (A1, B0, B0), 1),
                                     ((B0,), (A0, A0, A0), 1), ((A0, A0, A0), (B0,), -1), ((A0, B0), (A1, B1), 0),
                                     ((A0, B0, C0), (A0, C0, B0), -1)):
            self.assertEqual(list_told(UP, ones, others), answer, (ones, others))
        self.assertEqual(list_told((), (C0,), (A0,)), 0)
        self.assertEqual(list_told((), (C0, C0), (A0,)), 1)

    def test_rows_and_lists(self):
        for row in ROWS:
            kinds = [tuple(thing for thing in things[:3]) for things in LISTS] + [(A0,), (A0, A0), (A1,), (A1, B0)]
            for ones, others in itertools.product(kinds, repeat=2):
                one, other = [[worths(row, thing) for thing in things] for things in (ones, others)]
                self.assertEqual(list_told(row, ones, others), (one > other) - (one < other), (row, ones, others))


class AskedAgain(unittest.TestCase):
    def test_the_same_is_told_and_in_tuples(self):
        asks = (places, ordered, is_ordered, runs, crossings, turns, groups)
        for row, things in CASES:
            whole = plain_ordered(row, things)
            before = repr((row, things, whole))
            answers = []
            for again in range(2):
                answers.append([ask(row, things) for ask in asks] + [
                    merged(row, whole, whole), first_place(row, whole, B0), last_place(row, whole, B0),
                    best(row, things, 2), list_told(row, things, whole)])
            self.assertEqual(repr(answers[0]), repr(answers[1]))
            self.assertTrue(all(is_of_told_kinds(answer) for answer in answers[0]))
            self.assertEqual(repr((row, things, whole)), before)
