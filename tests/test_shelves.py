"""[0.2](j), [0.3], [7.1]."""

import random
import unittest

from keyorders.errors import NoPlace, NoStep, OrderError
from keyorders.shelves import Shelf
from tests.helper import ROWS, THINGS, UPS, is_of_told_kinds, plain_told

UP, DOWN = (("up", 0),), (("down", ("up", 0)),)
A0, A1, A2 = (0, 0, 0), (0, 0, 1), (0, 0, 2)
B0, B1 = (1, 0, 0), (1, 0, 1)
C0, C1 = (2, 0, 0), (2, 0, 1)


def shelf_of(row, *things):
    shelf = Shelf(row)
    for thing in things:
        shelf.put(thing)
    return shelf


def plain_put(row, things, thing):
    at = sum(plain_told(row, other, thing) < 1 for other in things)
    return things[:at] + (thing,) + things[at:]


class Retold:
    """The same shelf told by its deeds alone: what stands on it is what the deeds that are left lead to."""

    def __init__(self, row):
        self.first_row, self.deeds, self.taken_back = row, [], []

    def state(self):
        row, things = self.first_row, ()
        for word, what in self.deeds:
            if word == "put":
                things = plain_put(row, things, what)
            elif word == "take":
                things = things[:what] + things[what + 1:]
            else:
                row, stood, things = what, things, ()
                for thing in stood:
                    things = plain_put(row, things, thing)
        return row, things

    def do(self, word, what):
        self.deeds.append((word, what))
        self.taken_back = []


class Alone(unittest.TestCase):
    def test_a_shelf_of_no_things(self):
        shelf = Shelf(UP)
        self.assertEqual((shelf.things(), shelf.row()), ((), UP))
        self.assertEqual(shelf.around(A0), (0, 0))
        self.assertEqual(shelf.between(A0, C0), ())
        for at in (0, 1, -1):
            self.assertRaises(NoPlace, shelf.take, at)
        self.assertRaises(NoStep, shelf.back)
        self.assertRaises(NoStep, shelf.forth)
        self.assertIsNone(shelf.order(DOWN))
        self.assertEqual((shelf.things(), shelf.row()), ((), DOWN))

    def test_shelves_do_not_know_of_one_another(self):
        one, other = Shelf(UP), Shelf(UP)
        one.put(A0)
        self.assertEqual((one.things(), other.things()), ((A0,), ()))
        self.assertRaises(NoStep, other.back)

    def test_put(self):
        shelf = Shelf(UP)
        for thing, at, things in ((B0, 0, (B0,)), (A0, 0, (A0, B0)), (C0, 2, (A0, B0, C0)), (B1, 2, (A0, B0, B1, C0)),
                                  (A1, 1, (A0, A1, B0, B1, C0)), (A0, 2, (A0, A1, A0, B0, B1, C0))):
            self.assertEqual(shelf.put(thing), at)
            self.assertEqual(shelf.things(), things)
        shelf = Shelf(())
        self.assertEqual([shelf.put(thing) for thing in (C0, A0, B0)], [0, 1, 2])
        self.assertEqual(shelf.things(), (C0, A0, B0))

    def test_take(self):
        shelf = shelf_of(UP, A0, B0, B1, C0)
        self.assertEqual(shelf.take(1), B0)
        self.assertEqual(shelf.things(), (A0, B1, C0))
        self.assertEqual(shelf.take(2), C0)
        self.assertEqual(shelf.take(0), A0)
        self.assertEqual(shelf.take(0), B1)
        self.assertEqual(shelf.things(), ())

    def test_places_that_are_none(self):
        shelf = shelf_of(UP, A0, B0)
        for at in (2, 3, 100, -1, -2, -3):
            with self.assertRaises(NoPlace) as caught:
                shelf.take(at)
            self.assertIsInstance(caught.exception, OrderError)
            self.assertEqual(shelf.things(), (A0, B0))
        shelf.back()
        self.assertEqual(shelf.things(), (A0,))

    def test_order(self):
        shelf = shelf_of(UP, A1, B1, A0, C0, B0)
        self.assertEqual(shelf.things(), (A1, A0, B1, B0, C0))
        self.assertIsNone(shelf.order(DOWN))
        self.assertEqual((shelf.row(), shelf.things()), (DOWN, (C0, B1, B0, A1, A0)))
        self.assertEqual(shelf.put(B0), 3)
        shelf.order((("up", 2),))
        self.assertEqual(shelf.things(), (C0, B0, B0, A0, B1, A1))
        shelf.order(())
        self.assertEqual((shelf.row(), shelf.things()), ((), (C0, B0, B0, A0, B1, A1)))

    def test_around(self):
        shelf = shelf_of(UP, A0, B0, B1, C0)
        for thing, pair in ((A2, (0, 1)), (B0, (1, 3)), (C1, (3, 4)), ((3, 0, 0), (4, 4))):
            self.assertEqual(shelf.around(thing), pair)
        shelf.order(DOWN)
        self.assertEqual([shelf.around(thing) for thing in (A2, B0, C1, (3, 0, 0))], [(3, 4), (1, 3), (0, 1), (0, 0)])

    def test_between(self):
        shelf = shelf_of(UP, A0, A1, B1, B0, C0)
        for one, other, things in ((A2, A2, (A0, A1)), (A0, B0, (A0, A1, B1, B0)), (B0, B0, (B1, B0)),
                                   (B0, C0, (B1, B0, C0)), (B0, A0, ()), (C0, A0, ()), ((3, 0, 0), (5, 0, 0), ()),
                                   (A0, (5, 0, 0), (A0, A1, B1, B0, C0)), (C1, C1, (C0,))):
            self.assertEqual(shelf.between(one, other), things, (one, other))


class BackAndForth(unittest.TestCase):
    def test_step_by_step(self):
        shelf = shelf_of(UP, B0, A0)
        shelf.order(DOWN)
        shelf.take(0)
        states = [(DOWN, (A0,)), (DOWN, (B0, A0)), (UP, (A0, B0)), (UP, (B0,)), (UP, ())]
        for state in states[1:]:
            self.assertIsNone(shelf.back())
            self.assertEqual((shelf.row(), shelf.things()), state)
        self.assertRaises(NoStep, shelf.back)
        self.assertEqual((shelf.row(), shelf.things()), (UP, ()))
        for state in states[-2::-1]:
            self.assertIsNone(shelf.forth())
            self.assertEqual((shelf.row(), shelf.things()), state)
        self.assertRaises(NoStep, shelf.forth)
        self.assertEqual((shelf.row(), shelf.things()), states[0])
        shelf.back()
        self.assertEqual((shelf.row(), shelf.things()), states[1])

    def test_refusals_are_order_errors(self):
        for deed in (Shelf(UP).back, Shelf(UP).forth):
            with self.assertRaises(OrderError) as caught:
                deed()
            self.assertIs(caught.exception.__class__, NoStep)

    def test_things_not_told_apart_go_back_to_where_they_stood(self):
        shelf = shelf_of((), B1, A0, B0, A1)
        shelf.order(UP)
        self.assertEqual(shelf.things(), (A0, A1, B1, B0))
        shelf.back()
        self.assertEqual((shelf.row(), shelf.things()), ((), (B1, A0, B0, A1)))
        shelf.take(1)
        shelf.back()
        self.assertEqual(shelf.things(), (B1, A0, B0, A1))

    def test_forth_behind_another_deed(self):
        for deed in (lambda shelf: shelf.put(C0), lambda shelf: shelf.take(0), lambda shelf: shelf.order(DOWN),
                     lambda shelf: shelf.order(UP)):
            shelf = shelf_of(UP, A0, B0)
            shelf.back()
            deed(shelf)
            state = shelf.row(), shelf.things()
            self.assertRaises(NoStep, shelf.forth)
            self.assertEqual((shelf.row(), shelf.things()), state)
            shelf.back()
            self.assertEqual((shelf.row(), shelf.things()), (UP, (A0,)))
            shelf.forth()
            self.assertEqual((shelf.row(), shelf.things()), state)

    def test_an_order_by_the_same_row_is_a_deed(self):
        shelf = shelf_of(UP, A0)
        shelf.order(UP)
        shelf.back()
        self.assertEqual(shelf.things(), (A0,))
        shelf.back()
        self.assertEqual(shelf.things(), ())

    def test_what_was_refused_or_only_asked_is_no_deed(self):
        shelf = shelf_of(UP, A0, B0)
        shelf.back()
        self.assertRaises(NoPlace, shelf.take, 1)
        self.assertRaises(NoPlace, shelf.take, -1)
        shelf.around(A0), shelf.between(A0, B0), shelf.things(), shelf.row()
        shelf.forth()
        self.assertRaises(NoStep, shelf.forth)
        self.assertEqual(shelf.things(), (A0, B0))
        shelf.back()
        shelf.back()
        self.assertRaises(NoStep, shelf.back)
        shelf.forth()
        self.assertEqual(shelf.things(), (A0,))


class ManyDeeds(unittest.TestCase):
    def deed(self, chance, shelf, retold):
        row, things = retold.state()
        word = chance.choice(("put", "put", "put", "take", "order", "back", "back", "forth", "forth"))
        if word == "put":
            thing = chance.choice(THINGS[::5])
            self.assertEqual(shelf.put(thing), sum(plain_told(row, other, thing) < 1 for other in things))
            retold.do("put", thing)
        elif word == "take":
            at = chance.randrange(-1, len(things) + 1)
            if 0 <= at < len(things):
                self.assertEqual(shelf.take(at), things[at])
                retold.do("take", at)
            else:
                self.assertRaises(NoPlace, shelf.take, at)
        elif word == "order":
            other = chance.choice(ROWS)
            shelf.order(other)
            retold.do("order", other)
        elif word == "back" and retold.deeds:
            shelf.back()
            retold.taken_back.append(retold.deeds.pop())
        elif word == "forth" and retold.taken_back:
            shelf.forth()
            retold.deeds.append(retold.taken_back.pop())
        else:
            self.assertRaises(NoStep, shelf.back if word == "back" else shelf.forth)

    def assert_same(self, chance, shelf, retold):
        row, things = retold.state()
        self.assertEqual((shelf.row(), shelf.things()), (row, things))
        self.assertTrue(all(plain_told(row, one, other) < 1 for one, other in zip(things, things[1:])))
        one, other = chance.choice(THINGS), chance.choice(THINGS)
        told_of = [plain_told(row, thing, one) for thing in things]
        answers = [(shelf.around(one), shelf.between(one, other), shelf.things(), shelf.row()) for again in range(2)]
        self.assertEqual(answers[0][0], (told_of.count(-1), len(things) - told_of.count(1)))
        self.assertEqual(answers[0][1], tuple(thing for thing in things if plain_told(row, thing, one) > -1
                                              and plain_told(row, thing, other) < 1))
        self.assertEqual(repr(answers[0]), repr(answers[1]))
        self.assertTrue(is_of_told_kinds(answers[0]))

    def test_against_the_deeds_retold(self):
        chance = random.Random(71)
        for row in ROWS:
            shelf, retold = Shelf(row), Retold(row)
            for step in range(60):
                self.deed(chance, shelf, retold)
                self.assert_same(chance, shelf, retold)

    def test_things_and_rows_beyond_their_limits(self):
        shelf = shelf_of(UPS * 2, (9, 0, 0), (-1, 0, 0))
        self.assertEqual(shelf.things(), ((-1, 0, 0), (9, 0, 0)))
        shelf.order(UPS * 3)
        self.assertEqual(shelf.take(1), (9, 0, 0))
