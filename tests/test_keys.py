"""[0.2](a), [0.3], [0.4], [1.1], [1.2]."""

import copy
import itertools
import unittest

from keyorders.keys import all_things, is_key, is_row, is_thing, told, turned, worths
from tests.helper import (KEYS, LISTS, ODD, PAIRS, PLAIN_KEYS, ROWS, THINGS, is_of_told_kinds, plain_is_key,
                          plain_is_row, plain_is_thing, plain_told, plain_worth, spoilt)

SAMPLE_KEYS = (("up", 0), ("up", 2), ("part", 1, 2), ("part", 0, 3), ("rest", 2, 2), ("rest", 0, 3),
               ("table", 0, (1, 0)), ("table", 2, (5, 4, 3, 2)), ("table", 1, (0,)), ("among", 0, (0, 1)),
               ("among", 2, (1, 2, 4, 5)), ("among", 1, (3,)), ("sum", 0, 1), ("gap", 0, 2), ("most", 1, 2))


class WhichThingsAreWhat(unittest.TestCase):
    def assert_same(self, asked, plain, thing):
        before = copy.deepcopy(thing)
        answer = asked(thing)
        self.assertIs(answer, plain(thing), repr(thing))
        self.assertEqual(repr(thing), repr(before))
        self.assertIs(asked(thing), answer)

    def test_any_things(self):
        nested = list(ODD) + [(odd,) for odd in ODD] + [[odd] for odd in ODD] + [((([odd],),),) for odd in ODD]
        nested += [pair for pair in itertools.product(ODD, repeat=2)]
        for thing in nested:
            self.assert_same(is_thing, plain_is_thing, thing)
            self.assert_same(is_key, plain_is_key, thing)
            self.assert_same(is_row, plain_is_row, thing)

    def test_things(self):
        for thing in THINGS:
            self.assertIs(is_thing(thing), True)
        for thing in spoilt((0, 5, 1)) + spoilt((1, 1, 1)) + list(itertools.product(ODD, repeat=3)):
            self.assert_same(is_thing, plain_is_thing, thing)

    def test_edges_of_things(self):
        for thing in ((0, 0, 0), (5, 5, 5)):
            self.assertIs(is_thing(thing), True)
        for thing in ((0, 0), (0, 0, 0, 0), (0, 0, 6), (-1, 0, 0), (True, 0, 0), (0, 0, False), [0, 0, 0], "000"):
            self.assertIs(is_thing(thing), False, thing)

    def test_every_key(self):
        for key in KEYS:
            self.assertIs(is_key(key), True, key)

    def test_spoilt_keys(self):
        for key in SAMPLE_KEYS:
            for thing in spoilt(key) + spoilt(("down", key)):
                self.assert_same(is_key, plain_is_key, thing)

    def test_edges_of_keys(self):
        for key in (("part", 0, 1), ("part", 0, 4), ("rest", 0, 1), ("rest", 0, 4), ("up", 3), ("up", -1),
                    ("up", True), ("sum", 0, 0), ("gap", 1, 0), ("most", 2, 1), ("sum", 0, 3), ("sum", False, True),
                    ("table", 0, ()), ("table", 0, (1, 1)), ("table", 0, (0, 1, 2, 3, 4)), ("table", 0, (6,)),
                    ("table", 0, [1, 2]), ("table", 0, (True, 0)), ("among", 0, ()), ("among", 0, (2, 1)),
                    ("among", 0, (1, 1)), ("among", 0, (0, 1, 2, 3, 4)), ("among", 0, (False, 1)),
                    ("down", ("down", ("up", 0))), ("down",), ("down", "up", 0), ("down", ["up", 0]),
                    ("Up", 0), ("", 0), ("up",), (["up"], 0), (("up",), 0), (None, 0)):
            self.assertIs(is_key(key), False, key)

    def test_rows(self):
        for row in ROWS:
            self.assertIs(is_row(row), True, row)
            self.assertIs(is_row(list(row)), False, row)
            for thing in spoilt(row[:2]):
                self.assert_same(is_row, plain_is_row, thing)

    def test_edges_of_rows(self):
        self.assertIs(is_row(()), True)
        self.assertIs(is_row((("up", 0),) * 5), True)
        for thing in ((("up", 0),) * 6, ("up", 0), [], [("up", 0)], (("up", 0), None), (["up", 0],),
                      (("down", ("down", ("up", 0))),), "", None, True, 0):
            self.assertIs(is_row(thing), False, thing)


class WhatKeysTell(unittest.TestCase):
    def test_each_kind_by_hand(self):
        thing = (4, 1, 5)
        for key, worth in ((("up", 0), 4), (("up", 2), 5), (("part", 0, 2), 2), (("part", 2, 3), 1),
                           (("rest", 2, 2), 1), (("rest", 2, 3), 2), (("table", 0, (5, 4)), 1),
                           (("table", 0, (4,)), 0), (("table", 1, (5, 4, 0)), 3), (("among", 1, (0, 1)), 0),
                           (("among", 1, (0, 2)), 1), (("sum", 0, 2), 9), (("gap", 0, 1), 3), (("gap", 1, 2), 4),
                           (("gap", 0, 2), 1), (("most", 0, 1), 4), (("most", 1, 2), 5)):
            self.assertEqual(worths((key, ("down", key)), thing), (worth, -worth), key)

    def test_all_plain_keys_of_some_things(self):
        for thing in THINGS[::31]:
            for key in PLAIN_KEYS:
                self.assertEqual(worths((key,), thing), (plain_worth(key, thing),), (key, thing))

    def test_sample_keys_of_all_things(self):
        for key in SAMPLE_KEYS:
            for thing in THINGS:
                worth = plain_worth(key, thing)
                self.assertEqual(worths((("down", key), key), thing), (-worth, worth), (key, thing))

    def test_rows_tell_key_by_key(self):
        self.assertEqual(worths((), (1, 2, 3)), ())
        for row in ROWS:
            for thing in THINGS[::7]:
                answer = worths(row, thing)
                self.assertEqual(answer, tuple(plain_worth(key, thing) for key in row))
                self.assertIsInstance(answer, tuple)


class Told(unittest.TestCase):
    def test_by_hand(self):
        row = (("sum", 0, 1), ("down", ("up", 2)))
        self.assertEqual(told(row, (0, 1, 0), (2, 0, 5)), -1)
        self.assertEqual(told(row, (2, 0, 5), (0, 1, 0)), 1)
        self.assertEqual(told(row, (0, 2, 4), (2, 0, 3)), -1)
        self.assertEqual(told(row, (0, 2, 3), (2, 0, 4)), 1)
        self.assertEqual(told(row, (0, 2, 4), (2, 0, 4)), 0)
        self.assertEqual(told((), (0, 0, 0), (5, 5, 5)), 0)

    def test_pairs_both_ways_and_turned(self):
        for row in ROWS:
            back = turned(row)
            for one, other in PAIRS[::17]:
                plain = plain_told(row, one, other)
                self.assertEqual(told(row, one, other), plain, (row, one, other))
                self.assertEqual(told(row, other, one), -plain)
                self.assertEqual(told(back, one, other), -plain)

    def test_a_thing_and_itself(self):
        for row in ROWS:
            for thing in THINGS[::11]:
                self.assertEqual(told(row, thing, thing), 0)

    def test_it_goes_on_from_thing_to_thing(self):
        for row in ROWS:
            for one, two, three in itertools.permutations(THINGS[::19], 3):
                if told(row, one, two) < 1 and told(row, two, three) < 1:
                    least = min(told(row, one, two), told(row, two, three))
                    self.assertEqual(told(row, one, three), least, (row, one, two, three))


class Turned(unittest.TestCase):
    def test_each_key_is_turned(self):
        self.assertEqual(turned(()), ())
        self.assertEqual(turned((("up", 0), ("down", ("gap", 0, 1)))), (("down", ("up", 0)), ("gap", 0, 1)))

    def test_turned_twice_is_the_row(self):
        for row in ROWS:
            self.assertEqual(turned(turned(row)), row)
            self.assertTrue(is_row(turned(row)))
            for key, other in zip(row, turned(row)):
                self.assertTrue(other == ("down", key) or key == ("down", other))


class AllThings(unittest.TestCase):
    def test_all_rising(self):
        self.assertEqual(len(all_things()), 216)
        self.assertEqual(all_things(), THINGS)
        self.assertTrue(all(one < other for one, other in zip(all_things(), all_things()[1:])))


class Beyond(unittest.TestCase):
    """Somewhat beyond the limits no error is raised."""

    def test_six_keys_and_more(self):
        row = (("among", 0, (1,)),) * 6 + (("up", 2),)
        self.assertEqual(worths(row, (1, 2, 3)), (0, 0, 0, 0, 0, 0, 3))
        self.assertEqual(told(row, (1, 2, 3), (1, 5, 2)), 1)
        self.assertEqual(len(turned(row)), 7)

    def test_greater_and_lesser_worths(self):
        self.assertEqual(worths((("up", 0), ("sum", 0, 1), ("gap", 0, 1), ("most", 0, 1)), (7, -1, 0)), (7, 6, 8, 7))

    def test_keys_and_things_of_other_sizes(self):
        row = (("up", 3), ("sum", 2, 4), ("part", 0, 0), ("rest", 0, 0), ("table", 1, ()), ("among", 1, ()),
               ("down", ("down", ("up", 0))), ("up", -4))
        for thing in THINGS[::50] + ((), (1,), (1, 2), (1, 2, 3, 4)):
            self.assertEqual(len(worths(row, thing)), len(row))
            self.assertEqual(told(row, thing, thing), 0)


class AskedAgain(unittest.TestCase):
    def test_the_same_is_told_and_in_tuples(self):
        thing, other = LISTS[-1][:2]
        for row in ROWS:
            before = repr(row)
            for ask in (lambda: worths(row, thing), lambda: told(row, thing, other), lambda: turned(row), all_things):
                answer = ask()
                self.assertEqual(repr(ask()), repr(answer))
                self.assertTrue(is_of_told_kinds(answer))
            self.assertEqual(repr(row), before)
