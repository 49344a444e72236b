"""[0.2](i), [0.3], [9.2]."""

import itertools
import random
import unittest

from keyorders.fronts import agreed, beats, front, layers
from keyorders.keys import told, turned
from tests.helper import LISTS, ROWS, THINGS, UPS, is_of_told_kinds, plain_told

UP = (("up", 0),)
BY_ONE = (("up", 1),)
DOWN = (("down", ("up", 0)),)
FIELDS = tuple((up,) for up in UPS)


def some_rows():
    """Tuples of rows to try: none, the row of no keys, like ones, one and its turned one, two, three and more."""
    found = [(), ((),), ((), ()), (UP, DOWN), (UP, UP), FIELDS, FIELDS[:2], ((), UP), (UPS,), (UPS, turned(UPS))]
    found += [(row,) for row in ROWS[::3]] + [(row, turned(row)) for row in ROWS[::5]]
    found += list(itertools.combinations(ROWS[1::4], 2)) + list(itertools.combinations(ROWS[2::5], 3)) + [ROWS]
    return tuple(found)


ROWS_TO_TRY = some_rows()


def plain_beats(rows, one, other):
    ahead = [row for row in rows if plain_told(row, one, other) == -1]
    behind = [row for row in rows if plain_told(row, other, one) == -1]
    return len(ahead) > 0 and len(behind) == 0


def plain_depth(beaten_by, at):
    """How many others the longest chain up to this place has, each of which is beaten by the one ahead of it."""
    return max((plain_depth(beaten_by, other) + 1 for other in beaten_by[at]), default=0)


def plain_layers(rows, things):
    beaten_by = {at: [other for other in range(len(things)) if plain_beats(rows, things[other], things[at])]
                 for at in range(len(things))}
    depths = [plain_depth(beaten_by, at) for at in range(len(things))]
    return tuple(tuple(at for at in range(len(things)) if depths[at] == depth) for depth in sorted(set(depths)))


class Beats(unittest.TestCase):
    def test_by_hand(self):
        low, high, mixed = (1, 1, 0), (2, 2, 0), (0, 5, 0)
        rows = (UP, BY_ONE)
        for one, other, wanted in ((low, high, True), (high, low, False), (low, mixed, False), (mixed, low, False),
                                   (low, low, False), (low, (1, 2, 0), True), ((1, 2, 0), low, False),
                                   (low, (1, 1, 5), False), (mixed, (0, 5, 5), False)):
            self.assertIs(beats(rows, one, other), wanted, (one, other))

    def test_no_rows_and_rows_of_no_keys(self):
        for one, other in ((THINGS[0], THINGS[5]), (THINGS[5], THINGS[0]), (THINGS[7], THINGS[7])):
            self.assertIs(beats((), one, other), False)
            self.assertIs(beats(((),), one, other), False)
            self.assertIs(beats(((), ()), one, other), False)
            self.assertIs(beats(((), UPS), one, other), one < other)

    def test_a_row_and_its_turned_one(self):
        for row in ROWS:
            for one, other in itertools.product(THINGS[::31], repeat=2):
                self.assertIs(beats((row, turned(row)), one, other), False)
                self.assertIs(beats((row,), one, other), told(row, one, other) == -1)

    def test_it_does_not_matter_where_a_row_stands(self):
        for rows in itertools.permutations((UP, BY_ONE, DOWN)):
            self.assertIs(beats(rows, (1, 1, 0), (1, 2, 0)), True)
            self.assertIs(beats(rows, (0, 1, 0), (1, 2, 0)), False)
            self.assertIs(beats(rows, (1, 1, 0), (0, 2, 0)), False)

    def test_all_rows(self):
        for rows in ROWS_TO_TRY:
            for one, other in itertools.product(THINGS[::23], repeat=2):
                self.assertIs(beats(rows, one, other), plain_beats(rows, one, other), (rows, one, other))

    def test_nothing_beats_what_beats_it_and_it_goes_on(self):
        for rows in ROWS_TO_TRY:
            for one, other, last in itertools.product(THINGS[::43], repeat=3):
                first, second = beats(rows, one, other), beats(rows, other, last)
                self.assertFalse(first and beats(rows, other, one), (rows, one, other))
                self.assertFalse(first and second and not beats(rows, one, last), (rows, one, other, last))


class Fronts(unittest.TestCase):
    def test_by_hand(self):
        things = ((2, 2, 0), (1, 3, 0), (3, 1, 0), (3, 3, 0), (1, 3, 5), (5, 5, 5), (2, 3, 0))
        rows = (UP, BY_ONE)
        self.assertEqual(front(rows, things), (0, 1, 2, 4))
        self.assertEqual(layers(rows, things), ((0, 1, 2, 4), (6,), (3,), (5,)))
        self.assertEqual(agreed(rows, things), ((0, 3), (0, 5), (0, 6), (1, 3), (1, 5), (1, 6), (2, 3), (2, 5), (3, 5),
                                                (4, 3), (4, 5), (4, 6), (6, 3), (6, 5)))

    def test_no_things(self):
        for rows in ROWS_TO_TRY:
            self.assertEqual((front(rows, ()), layers(rows, ()), agreed(rows, ())), ((), (), ()))

    def test_no_rows_and_a_row_with_its_turned_one(self):
        for things in LISTS:
            whole = tuple(range(len(things)))
            for rows in ((), ((),), (UP, DOWN), (UPS, turned(UPS)), (DOWN, BY_ONE, UP, turned(BY_ONE))):
                self.assertEqual(front(rows, things), whole)
                self.assertEqual(layers(rows, things), (whole,) if things else ())
                self.assertEqual(agreed(rows, things), ())

    def test_like_things_stand_in_one_layer(self):
        things = ((1, 0, 0), (0, 0, 0), (1, 0, 0), (0, 0, 0))
        self.assertEqual(front((UP,), things), (1, 3))
        self.assertEqual(layers((UP,), things), ((1, 3), (0, 2)))
        self.assertEqual(agreed((UP,), things), ((1, 0), (1, 2), (3, 0), (3, 2)))

    def test_one_row_layers_as_it_orders(self):
        things = ((3, 0, 0), (1, 0, 0), (2, 0, 0), (1, 5, 5), (0, 0, 0))
        self.assertEqual(layers((UP,), things), ((4,), (1, 3), (2,), (0,)))
        self.assertEqual(layers((DOWN,), things), ((0,), (2,), (1, 3), (4,)))

    def test_a_chain_that_is_longer_than_it_seems(self):
        # The last is beaten by the first right away, and by way of the two others, which decide its layer.
        things = ((3, 3, 0), (0, 0, 0), (2, 1, 0), (1, 1, 0), (0, 5, 0))
        self.assertEqual(layers((UP, BY_ONE), things), ((1,), (3, 4), (2,), (0,)))

    def test_all_rows_and_lists(self):
        for rows in ROWS_TO_TRY:
            for things in LISTS:
                if len(rows) > 3 and len(things) > 9:
                    continue
                wanted = plain_layers(rows, things)
                self.assertEqual(layers(rows, things), wanted, (rows, things))
                self.assertEqual(front(rows, things), wanted[0] if wanted else (), (rows, things))
                pairs = tuple((at, other) for at in range(len(things)) for other in range(len(things))
                              if plain_beats(rows, things[at], things[other]))
                self.assertEqual(agreed(rows, things), pairs, (rows, things))

    def test_none_of_a_layer_beats_one_of_it_and_each_behind_is_beaten(self):
        chance = random.Random(9)
        for rows in ROWS_TO_TRY[:20]:
            things = tuple(chance.choice(THINGS) for step in range(25))
            found = layers(rows, things)
            self.assertEqual(sorted(at for layer in found for at in layer), list(range(25)))
            for layer in found:
                self.assertEqual(layer, tuple(sorted(layer)))
                self.assertFalse(any(beats(rows, things[at], things[other]) for at in layer for other in layer))
            for ahead, layer in zip(found, found[1:]):
                for at in layer:
                    self.assertTrue(any(beats(rows, things[other], things[at]) for other in ahead))


class Beyond(unittest.TestCase):
    def test_beyond_the_limits(self):
        rows = (UPS + UPS, (("up", 3),), (("sum", 0, 4),))
        things = ((7, 0, 0), (6, 0, 0), (6, 0, 0, 1), (-1, 9, 9))
        self.assertEqual(layers(rows, things), ((3,), (1,), (0, 2)))
        self.assertEqual(front(rows, things), (3,))
        self.assertEqual(agreed(rows, things)[:2], ((1, 0), (1, 2)))

    def test_all_things(self):
        self.assertEqual(layers((UPS,), THINGS), tuple((at,) for at in range(216)))
        self.assertEqual(len(layers(FIELDS, THINGS)), 16)
        self.assertEqual(front(FIELDS, THINGS), (0,))


class AskedAgain(unittest.TestCase):
    def test_the_same_is_told_and_in_tuples(self):
        for rows in ROWS_TO_TRY[::2]:
            for things in LISTS[::4]:
                before = repr((rows, things))
                answers = []
                for again in range(2):
                    told_of = [ask(rows, things) for ask in (front, layers, agreed)]
                    answers.append(tuple(told_of + [beats(rows, one, other) for one in things for other in things]))
                self.assertEqual(repr(answers[0]), repr(answers[1]))
                self.assertTrue(is_of_told_kinds(answers[0]))
                self.assertEqual(repr((rows, things)), before)
