"""[0.2](d), [0.3], [9.1]."""

import itertools
import unittest

from keyorders.keys import turned
from keyorders.lists import groups, is_ordered, merged, ordered
from keyorders.nesting import merged_all, nested
from tests.helper import LISTS, ROWS, THINGS, UPS, is_of_told_kinds, plain_told

KINDS = ("as", "many", "first", "last")
UP = (("up", 0),)
BY_ONE = (("up", 1),)
BY_TWO = (("up", 2),)


def put_in(things, is_behind):
    """Each thing put, one by one, behind all that it is not to stand ahead of."""
    found = []
    for thing in things:
        at = len(found)
        while at > 0 and is_behind(found[at - 1], thing):
            at -= 1
        found.insert(at, thing)
    return found


def plain_ordered(row, things):
    return put_in(things, lambda one, other: plain_told(row, one, other) == 1)


def plain_groups(row, things):
    found = []
    for thing in plain_ordered(row, things):
        if found and plain_told(row, found[-1][0], thing) == 0:
            found[-1].append(thing)
        else:
            found.append([thing])
    return found


def plain_nested(row, inner, kind, things):
    inside = [plain_ordered(inner, group) for group in plain_groups(row, things)]
    is_behind = {
        "as": lambda one, other: plain_told(row, one[0], other[0]) == 1,
        "many": lambda one, other: len(one) > len(other),
        "first": lambda one, other: plain_told(inner, one[0], other[0]) == 1,
        "last": lambda one, other: plain_told(inner, one[-1], other[-1]) == 1,
    }
    return tuple(tuple(group) for group in put_in(inside, is_behind[kind]))


class Nested(unittest.TestCase):
    def test_each_kind_by_hand(self):
        things = ((2, 0, 3), (0, 4, 0), (1, 5, 0), (0, 1, 0), (1, 2, 0), (1, 3, 0))
        zero, one, two = ((0, 1, 0), (0, 4, 0)), ((1, 2, 0), (1, 3, 0), (1, 5, 0)), ((2, 0, 3),)
        for kind, wanted in (("as", (zero, one, two)), ("many", (two, zero, one)), ("first", (two, zero, one)),
                             ("last", (two, zero, one))):
            self.assertEqual(nested(UP, BY_ONE, kind, things), wanted, kind)
        turned_inside = tuple(group[::-1] for group in (zero, one, two))
        zero, one, two = turned_inside
        down = turned(BY_ONE)
        for kind, wanted in (("as", (zero, one, two)), ("many", (two, zero, one)), ("first", (one, zero, two)),
                             ("last", (one, zero, two))):
            self.assertEqual(nested(UP, down, kind, things), wanted, kind)

    def test_first_and_last_are_not_the_same(self):
        things = ((0, 1, 0), (0, 2, 0), (1, 0, 0), (1, 5, 0), (2, 3, 0))
        zero, one, two = things[:2], things[2:4], things[4:]
        self.assertEqual(nested(UP, BY_ONE, "first", things), (one, zero, two))
        self.assertEqual(nested(UP, BY_ONE, "last", things), (zero, two, one))

    def test_the_first_thing_is_the_first_by_inner_not_as_it_stood(self):
        things = ((0, 5, 0), (0, 1, 0), (1, 3, 0), (1, 2, 0))
        self.assertEqual(nested(turned(UP), BY_ONE, "first", things), (things[1::-1], things[:1:-1]))
        self.assertEqual(nested(UP, BY_ONE, "last", things), (things[:1:-1], things[1::-1]))

    def test_groups_that_the_kind_does_not_tell_apart_stand_as_the_row_tells(self):
        things = ((2, 1, 0), (0, 1, 1), (1, 1, 2))
        by_row = ((things[1],), (things[2],), (things[0],))
        for kind in KINDS:
            self.assertEqual(nested(UP, BY_ONE, kind, things), by_row, kind)
            self.assertEqual(nested(turned(UP), BY_ONE, kind, things), by_row[::-1], kind)

    def test_what_inner_does_not_tell_apart_stands_as_it_stood(self):
        things = ((1, 1, 5), (0, 0, 5), (1, 0, 4), (0, 0, 0), (1, 1, 0), (1, 0, 5))
        self.assertEqual(nested(UP, BY_ONE, "as", things),
                         (((0, 0, 5), (0, 0, 0)), ((1, 0, 4), (1, 0, 5), (1, 1, 5), (1, 1, 0))))

    def test_no_things_and_one_group(self):
        for kind in KINDS:
            for row, inner in itertools.product(ROWS, repeat=2):
                self.assertEqual(nested(row, inner, kind, ()), ())
                self.assertEqual(nested(row, inner, kind, ((3, 1, 4),)), (((3, 1, 4),),))
            things = ((1, 2, 0), (0, 2, 0), (5, 0, 0))
            self.assertEqual(nested((), BY_ONE, kind, things), ((things[2], things[0], things[1]),))
            self.assertEqual(nested((), (), kind, things), (things,))

    def test_like_things_stand_in_one_group(self):
        things = ((2, 2, 2), (1, 1, 1), (2, 2, 2))
        self.assertEqual(nested(UPS, (), "many", things), (((1, 1, 1),), ((2, 2, 2), (2, 2, 2))))
        self.assertEqual(nested(turned(UPS), (), "many", things), (((1, 1, 1),), ((2, 2, 2), (2, 2, 2))))
        self.assertEqual(nested(turned(UPS), (), "as", things), (((2, 2, 2), (2, 2, 2)), ((1, 1, 1),)))

    def test_all_rows_and_lists(self):
        for at, (row, inner) in enumerate(itertools.product(ROWS, repeat=2)):
            for things in LISTS[at % 4::4]:
                for kind in KINDS:
                    self.assertEqual(nested(row, inner, kind, things), plain_nested(row, inner, kind, things),
                                     (row, inner, kind, things))

    def test_all_things_are_there(self):
        for row, inner in zip(ROWS, ROWS[3:] + ROWS[:3]):
            for things in LISTS:
                for kind in KINDS:
                    found = nested(row, inner, kind, things)
                    self.assertEqual(sorted(thing for group in found for thing in group), sorted(things))
                    self.assertEqual(sorted(map(sorted, found)), sorted(map(sorted, groups(row, things))))
                    self.assertTrue(all(is_ordered(inner, group) for group in found))


class MergedAll(unittest.TestCase):
    def test_by_hand(self):
        self.assertEqual(merged_all(UP, ()), ())
        self.assertEqual(merged_all(UP, ((),)), ())
        self.assertEqual(merged_all(UP, ((), (), ())), ())
        self.assertEqual(merged_all(UP, ((), ((1, 0, 0),), ())), ((1, 0, 0),))
        one, two, three = ((0, 0, 1), (2, 0, 1)), ((0, 0, 2), (1, 0, 2), (1, 5, 2), (2, 0, 2)), ((1, 0, 3), (3, 0, 3))
        self.assertEqual(merged_all(UP, (one, two, three)),
                         ((0, 0, 1), (0, 0, 2), (1, 0, 2), (1, 5, 2), (1, 0, 3), (2, 0, 1), (2, 0, 2), (3, 0, 3)))
        self.assertEqual(merged_all(UP, (three, two, one)),
                         ((0, 0, 2), (0, 0, 1), (1, 0, 3), (1, 0, 2), (1, 5, 2), (2, 0, 2), (2, 0, 1), (3, 0, 3)))

    def test_one_list_twice(self):
        things = ((0, 1, 0), (0, 0, 0), (1, 0, 0))
        self.assertEqual(merged_all(UP, (things, things)), things[:2] * 2 + things[2:] * 2)
        for row in ROWS:
            things = ordered(row, THINGS[::19])
            self.assertEqual(merged_all(row, (things,)), things)
            self.assertEqual(merged_all(row, (things, things)), merged(row, things, things))

    def test_of_things_not_told_apart_those_of_earlier_lists_stand_first(self):
        for row in ROWS:
            for at in range(len(LISTS) - 4):
                lists = tuple(ordered(row, things) for things in LISTS[at:at + 4])
                wanted = plain_ordered(row, [thing for things in lists for thing in things])
                self.assertEqual(merged_all(row, lists), tuple(wanted), (row, lists))

    def test_it_is_merging_one_by_one(self):
        for row in ROWS:
            lists = tuple(ordered(row, things) for things in LISTS[3:12])
            found = ()
            for things in lists:
                found = merged(row, found, things)
            self.assertEqual(merged_all(row, lists), found)
            self.assertTrue(is_ordered(row, found))


class Beyond(unittest.TestCase):
    def test_beyond_the_limits(self):
        row = UPS + UPS
        things = ((6, 7, -1), (0, 0, 9), (6, 7, -1))
        for kind in KINDS:
            self.assertEqual(sorted(nested(row, (("up", 3),), kind, things)), [things[1:2], things[::2]])
        self.assertEqual(merged_all((("down", ("up", 0)),), (things[:2], things[2:])), things[::2] + things[1:2])


class AskedAgain(unittest.TestCase):
    def test_the_same_is_told_and_in_tuples(self):
        for row, inner in zip(ROWS, ROWS[7:] + ROWS[:7]):
            for things in LISTS[::3]:
                lists = (ordered(row, things), ordered(row, things[:2]))
                before = repr((row, inner, things, lists))
                answers = []
                for again in range(2):
                    answers.append(tuple(nested(row, inner, kind, things) for kind in KINDS)
                                   + (merged_all(row, lists),))
                self.assertEqual(repr(answers[0]), repr(answers[1]))
                self.assertTrue(is_of_told_kinds(answers[0]))
                self.assertEqual(repr((row, inner, things, lists)), before)
