"""[0.1], [0.2](a) to (j): what the document promises over the whole program, tried with rows of all keys.

The tests of each module hold it against the document's words; here the modules are held against one another.
"""

import itertools
import random
import unittest

from keyorders.errors import NoPlace, NoStep, Ring
from keyorders.fronts import agreed, beats, front, layers
from keyorders.judging import (alike, classes, deciders, form, is_whole_order, keeps, needless, parting, short, silent,
                               tie, ties_of, unkept)
from keyorders.keys import is_row, told, turned
from keyorders.learning import agreeing, told_by, unlike_rows
from keyorders.lists import crossings, groups, is_ordered, merged, ordered, places, runs, turns
from keyorders.nesting import merged_all, nested
from keyorders.pairs import closed, least_order, orders, ring
from keyorders.papers import fewest, is_paper, paper
from keyorders.shelves import Shelf
from keyorders.tables import is_table, is_why_none, ranks, table_of, why_none
from keyorders.texts import read_row, row_text
from tests.helper import KEYS, PAIRS, THINGS, plain_all_told

CHANCE = random.Random(216)
# Few of all keys are no table or among, so that each kind is chosen first, and a key of it then.
WORDS = ("up", "part", "rest", "table", "among", "sum", "gap", "most")


def some_key():
    word = CHANCE.choice(WORDS)
    key = CHANCE.choice([key for key in KEYS if key[0] == word])
    return ("down", key) if CHANCE.random() < 0.4 else key


def some_row():
    row = [some_key() for step in range(CHANCE.randrange(5))]
    # A key that is said again, perhaps turned, is often needless.
    if row and CHANCE.random() < 0.5:
        again = (CHANCE.choice(row),)
        row.insert(CHANCE.randrange(len(row) + 1), CHANCE.choice((again, turned(again)))[0])
    return tuple(row)


def some_list(most):
    few = CHANCE.choice((2, 3, 6))
    return tuple(tuple(CHANCE.randrange(few) for field in range(3)) for step in range(CHANCE.randrange(most)))


ROWS = tuple(some_row() for step in range(60))
LISTS = tuple(some_list(12) for step in range(60))
ROWS_AND_LISTS = tuple(zip(ROWS, LISTS))


class Whole(unittest.TestCase):
    def test_a_what_is_told_of_two(self):
        for row in ROWS:
            back = turned(row)
            self.assertEqual(turned(back), row)
            for one, other, last in zip(CHANCE.choices(THINGS, k=60), CHANCE.choices(THINGS, k=60), THINGS[::3]):
                which, on = told(row, one, other), told(row, other, last)
                self.assertEqual(told(row, other, one), -which)
                self.assertEqual(told(back, one, other), -which)
                if which <= 0 and on <= 0:
                    self.assertEqual(told(row, one, last), min(which, on))

    def test_b_one_form_or_the_least_pair(self):
        for one, other in zip(ROWS, ROWS[1:] + ROWS[:1]):
            tells = zip(PAIRS, plain_all_told(one), plain_all_told(other))
            parts = [pair for pair, first, second in tells if first != second]
            self.assertEqual(form(one) == form(other), not parts)
            self.assertEqual(alike(one, other), not parts)
            self.assertEqual(parting(one, other), parts[0] if parts else None)
            self.assertEqual(keeps(one, other) and keeps(other, one), not parts)
            self.assertEqual(keeps(one, other), unkept(one, other) is None)

    def test_b_all_things_told_apart(self):
        for row in ROWS:
            self.assertEqual(classes(row), max(form(row)) + 1)
            self.assertEqual(is_whole_order(row), classes(row) == 216)
            self.assertEqual(tie(row) is None, ties_of(row) == 0)
            self.assertEqual(sum(deciders(row)) + ties_of(row), len(PAIRS))

    def test_c_what_can_go(self):
        for row in ROWS:
            self.assertTrue(set(silent(row)) <= set(needless(row)))
            for at in needless(row):
                self.assertTrue(alike(row[:at] + row[at + 1:], row))
            self.assertTrue(alike(short(row), row))
            self.assertEqual(needless(short(row)), ())

    def test_d_put_in_order_and_led_together(self):
        for row, things in ROWS_AND_LISTS:
            found = ordered(row, things)
            self.assertEqual(sorted(found), sorted(things))
            self.assertTrue(is_ordered(row, found))
            for at, behind in itertools.combinations(places(row, things), 2):
                self.assertTrue(told(row, things[at], things[behind]) == -1
                                or (told(row, things[at], things[behind]) == 0 and at < behind))
            self.assertEqual(merged_all(row, runs(row, things)), found)
            self.assertEqual((turns(row, things) or (things,))[-1], found)
            self.assertEqual(merged_all(row, (found, found)), merged(row, found, found))
            self.assertEqual(crossings(row, things) == 0, things == found)
            self.assertEqual(nested(row, (), "as", things), groups(row, things))

    def test_e_tables(self):
        for row, things in ROWS_AND_LISTS:
            table = table_of(row, things[:5] + THINGS[:1])
            self.assertTrue(is_table(table))
            self.assertIsNotNone(ranks(table))
            self.assertIsNone(why_none(table))
            at, other = CHANCE.randrange(len(table)), CHANCE.randrange(len(table))
            changed = [list(signs) for signs in table]
            changed[at][other] = changed[at][other] - 1 if changed[at][other] >= 0 else 1
            spoilt = tuple(tuple(signs) for signs in changed)
            self.assertIsNone(ranks(spoilt))
            self.assertTrue(is_why_none(spoilt, why_none(spoilt)))
            self.assertFalse(is_why_none(table, why_none(spoilt)))

    def test_f_pairs(self):
        for step in range(60):
            many = CHANCE.randrange(2, 6)
            all_pairs = list(itertools.permutations(range(many), 2))
            pairs = tuple(sorted(CHANCE.sample(all_pairs, CHANCE.randrange(min(6, len(all_pairs))))))
            if ring(pairs) is None:
                wanted = [order for order in itertools.permutations(range(many))
                          if all(order.index(first) < order.index(second) for first, second in pairs)]
                self.assertEqual(orders(pairs, many), tuple(wanted))
                self.assertEqual(least_order(pairs, many), wanted[0])
            else:
                self.assertRaises(Ring, orders, pairs, many)
                self.assertTrue(any(first == second for first, second in closed(pairs)))

    def test_g_rows_found(self):
        for things in LISTS[::4]:
            found = agreeing(things[:4])
            self.assertTrue(all(is_ordered(row, things[:4]) for row in found))
            self.assertEqual(told_by((things[:4], ())), found)
            chosen = unlike_rows(found[:12])
            self.assertEqual(len(set(map(form, found[:12]))), len(chosen))
        for row in agreeing(())[::7]:
            self.assertIn(row, agreeing(ordered(row, LISTS[5])))

    def test_h_papers_and_fewest_keys(self):
        for one, other in list(zip(ROWS, ROWS[1:])) + [(row, short(row)) for row in ROWS]:
            found = paper(one, other)
            self.assertTrue(is_paper(one, other, found))
            self.assertEqual(is_paper(one, other, ("alike", form(one))), found[0] == "alike")
            self.assertEqual(any(is_paper(one, other, ("parts",) + pair) for pair in PAIRS[::7]) and
                             found[0] == "alike", False)
        for row in ROWS:
            found = fewest(row)
            self.assertEqual(sorted(set(found)), list(found))
            for chosen in itertools.chain(*[itertools.combinations(range(len(row)), many)
                                            for many in range(len(found[0]) + 1)]):
                self.assertEqual(alike(tuple(row[at] for at in chosen), row), chosen in found, (row, chosen))
            self.assertLessEqual(len(found[0]), len(short(row)))

    def test_i_fronts(self):
        for at, things in enumerate(LISTS):
            rows = ROWS[at:at + at % 4]
            found = layers(rows, things)
            self.assertEqual(found[:1], (front(rows, things),) if things else ())
            self.assertEqual(sorted(place for layer in found for place in layer), list(range(len(things))))
            for first, second in agreed(rows, things):
                self.assertTrue(beats(rows, things[first], things[second]))
                self.assertNotIn((second, first), agreed(rows, things))
                self.assertFalse(any(first in layer and second in layer for layer in found))
            for ahead, layer in zip(found, found[1:]):
                self.assertTrue(all(any((other, place) in agreed(rows, things) for other in ahead) for place in layer))

    def test_j_shelves(self):
        for row, things in ROWS_AND_LISTS:
            shelf = Shelf(row)
            states = [((), row)]
            for at, thing in enumerate(things):
                shelf.put(thing)
                states.append((shelf.things(), shelf.row()))
                if at % 4 == 3:
                    shelf.order(turned(shelf.row()))
                    states.append((shelf.things(), shelf.row()))
                self.assertTrue(is_ordered(shelf.row(), shelf.things()))
            self.assertRaises(NoPlace, shelf.take, len(things))
            for state in states[-2::-1]:
                shelf.back()
                self.assertEqual((shelf.things(), shelf.row()), state)
            self.assertRaises(NoStep, shelf.back)
            for state in states[1:]:
                shelf.forth()
                self.assertEqual((shelf.things(), shelf.row()), state)
            self.assertRaises(NoStep, shelf.forth)

    def test_j_texts(self):
        for row in ROWS:
            self.assertTrue(is_row(row))
            self.assertEqual(read_row(row_text(row)), row)
            self.assertEqual(read_row(row_text(turned(row))), turned(row))
