"""[0.2](h), [0.3], [8.1]."""

import itertools
import unittest

from keyorders.judging import alike, form, needless, parting
from keyorders.papers import fewest, is_paper, paper
from tests.helper import (ODD, PAIRS, ROWS, THINGS, UPS, is_of_told_kinds, plain_all_told, plain_form, plain_told,
                          spoilt)

TOLD = {row: plain_all_told(row) for row in ROWS}
FORMS = {row: plain_form(row) for row in ROWS}
ROW_PAIRS = tuple(itertools.product(ROWS, repeat=2))
WRITTEN_PARTS = frozenset(repr(("parts",) + pair) for pair in PAIRS)
UP = (("up", 0),)
UP_IN_TWO = (("part", 0, 2), ("rest", 0, 2))
DOWN = (("down", ("up", 0)),)


def plain_is_paper(one, other, thing):
    """Written out, True and 1, or a list and a tuple, are not the same."""
    if repr(thing) == repr(("alike", plain_form(one))):
        return plain_form(one) == plain_form(other)
    if repr(thing) not in WRITTEN_PARTS:
        return False
    return plain_told(one, *thing[1:]) != plain_told(other, *thing[1:])


def spoilt_ranks(ranks):
    """Ranks with one exchanged, left out or put in, two of them exchanged, or of other kinds; none the same."""
    found = [list(ranks), ranks[::-1], ranks + ranks, ranks + (0,), (ranks,), ranks[1:], ranks[:-1], (), None, "ranks"]
    found.append(tuple(rank + 1 for rank in ranks))
    found.append(tuple(-rank for rank in ranks))
    for at in (0, 1, 7, 36, 100, 215):
        found.append(ranks[:at] + ranks[at + 1:])
        found.append(ranks[:at] + (ranks[at],) + ranks[at:])
        odd = ODD + (ranks[at] + 1, ranks[at] - 1, str(ranks[at]), (ranks[at],), [ranks[at]], bool(ranks[at]))
        found += [ranks[:at] + (other,) + ranks[at + 1:] for other in odd]
    for at, other in ((0, 1), (0, 215), (5, 40), (36, 37), (100, 200)):
        changed = list(ranks)
        changed[at], changed[other] = changed[other], changed[at]
        found.append(tuple(changed))
    return [other for other in found if repr(other) != repr(ranks)]


class Paper(unittest.TestCase):
    def test_by_hand(self):
        self.assertEqual(paper((), ()), ("alike", (0,) * 216))
        self.assertEqual(paper(UP, UP_IN_TWO), ("alike", tuple(at // 36 for at in range(216))))
        self.assertEqual(paper(UPS, UPS + (("gap", 0, 1),)), ("alike", tuple(range(216))))
        self.assertEqual(paper(UP, DOWN), ("parts", (0, 0, 0), (1, 0, 0)))
        self.assertEqual(paper((), UPS), ("parts", (0, 0, 0), (0, 0, 1)))
        self.assertEqual(paper((("table", 0, (0, 1, 2, 3)),), UP), ("parts", (4, 0, 0), (5, 0, 0)))

    def test_all_pairs_of_rows(self):
        for one, other in ROW_PAIRS:
            parts = [pair for pair, a, b in zip(PAIRS, TOLD[one], TOLD[other]) if a != b]
            wanted = ("parts",) + parts[0] if parts else ("alike", FORMS[one])
            self.assertEqual(paper(one, other), wanted, (one, other))
            self.assertIs(is_paper(one, other, wanted), True, (one, other))
            self.assertIs(is_paper(other, one, wanted), True, (one, other))

    def test_it_agrees_with_what_judging_tells(self):
        for one, other in ROW_PAIRS[::3]:
            found = paper(one, other)
            self.assertEqual(found[0] == "alike", alike(one, other))
            self.assertEqual(found[1:], (form(one),) if alike(one, other) else parting(one, other))


class IsPaper(unittest.TestCase):
    def test_by_hand(self):
        ranks = tuple(at // 36 for at in range(216))
        one, other = (0, 0, 0), (1, 0, 0)
        self.assertIs(is_paper(UP, UP_IN_TWO, ("alike", ranks)), True)
        self.assertIs(is_paper(UP, UP, ("alike", ranks)), True)
        self.assertIs(is_paper(UP, DOWN, ("parts", one, other)), True)
        self.assertIs(is_paper(UP, DOWN, ("parts", (2, 5, 5), (3, 0, 0))), True)
        self.assertIs(is_paper(UP, (), ("parts", (2, 5, 5), (3, 0, 0))), True)
        for thing in (("parts", other, one), ("parts", one, one), ("parts", one, (0, 5, 5)), ("alike", one, other),
                      ("parts", list(one), other), ("parts", one, list(other)), ["parts", one, other],
                      ("parts", (one, other)), (("parts", one, other),), ("parts", one), ("parts", one, other, other),
                      ("parts", (False, 0, 0), other), ("parts", one, (True, 0, 0)), ("parts", one, (6, 0, 0)),
                      ("parts", (-1, 0, 0), other), ("parts", (0, 0), other), ("parts", one, (1, 0, 0, 0)),
                      ("parts", None, other), ("parts", one, None), ("parts", one, "100"), ("Parts", one, other),
                      ("part", one, other), (one, other), (None, one, other), (["parts"], one, other), ("parts",), (),
                      [], None, True, False, 0, 1, "", "parts", "alike", ("alike",), ("alike", ranks),
                      ("alike", ranks[::-1]), ("alike", tuple(5 - rank for rank in ranks))):
            self.assertIs(is_paper(UP, DOWN, thing), False, thing)
            self.assertIs(is_paper(DOWN, UP, thing), False, thing)

    def test_forms_by_hand(self):
        ranks = tuple(at // 36 for at in range(216))
        for thing in (("alike", list(ranks)), ["alike", ranks], ("alike",) + ranks, ("alike", ranks, ranks), ranks,
                      ("alike", ranks[:-1]), ("alike", ranks[1:]), ("alike", ranks + (5,)), ("parts", ranks),
                      ("alike", (1,) + ranks[1:]), ("alike", (False,) * 36 + ranks[36:]), ("alike", None),
                      ("alike", ranks[:36] + (True,) + ranks[37:]), ("alike", ((0, 0, 0), (1, 0, 0))),
                      ("alike", ranks[:35] + (1, 0) + ranks[37:]), ("alike", ()), ("alike", 0), ("alike", "0"),
                      ("parts", (0, 0, 0), (1, 0, 0)), ("parts", (1, 0, 0), (0, 0, 0)), ("ALIKE", ranks)):
            self.assertIs(is_paper(UP, UP_IN_TWO, thing), False, thing)
        # The form of one of them alone shows nothing.
        self.assertIs(is_paper(UP, (), ("alike", ranks)), False)
        self.assertIs(is_paper((), UP, ("alike", ranks)), False)
        self.assertIs(is_paper((), UP, ("alike", (0,) * 216)), False)

    def test_all_parting_pairs_of_some_rows(self):
        for one, other in ROW_PAIRS[::37]:
            for (first, second), a, b in zip(PAIRS, TOLD[one], TOLD[other]):
                self.assertIs(is_paper(one, other, ("parts", first, second)), a != b, (one, other, first, second))
                self.assertIs(is_paper(one, other, ("parts", second, first)), False, (one, other, first, second))

    def test_one_word_never_shows_what_the_other_does(self):
        for one, other in ROW_PAIRS:
            parts = any(is_paper(one, other, ("parts",) + pair) for pair in PAIRS[::613])
            same = any(is_paper(one, other, ("alike", ranks)) for ranks in (FORMS[one], FORMS[other]))
            self.assertFalse(parts and same, (one, other))
            self.assertEqual(same, FORMS[one] == FORMS[other], (one, other))

    def test_any_things(self):
        for one, other in ((UP, DOWN), (UP, UP_IN_TWO), ((), ()), ((), UPS)):
            things = list(ODD) + [("alike", odd) for odd in ODD] + [("parts", odd, THINGS[5]) for odd in ODD]
            for pair in PAIRS[::7001]:
                things += spoilt(("parts",) + pair)
            for thing in things:
                self.assertIs(is_paper(one, other, thing), plain_is_paper(one, other, thing), (one, other, thing))

    def test_ranks_exchanged_left_out_or_put_in(self):
        for one, other in ((UP, UP_IN_TWO), ((), ()), (UPS, UPS), (DOWN, DOWN)):
            ranks = plain_form(one)
            self.assertIs(is_paper(one, other, ("alike", ranks)), True)
            for changed in spoilt_ranks(ranks):
                self.assertIs(is_paper(one, other, ("alike", changed)), False, (one, changed))


class Fewest(unittest.TestCase):
    def test_by_hand(self):
        up, down, part, rest = UP[0], DOWN[0], UP_IN_TWO[0], UP_IN_TWO[1]
        for row, wanted in (
                ((), ((),)),
                (UP, ((0,),)),
                (UPS, ((0, 1, 2),)),
                ((up, up), ((0,), (1,))),
                ((up, up, up, up, up), ((0,), (1,), (2,), (3,), (4,))),
                ((up, down), ((0,),)),
                ((part, up), ((1,),)),
                ((part, rest), ((0, 1),)),
                ((part, rest, up), ((2,),)),
                ((part, part, rest), ((0, 2), (1, 2))),
                ((part, rest, part, rest), ((0, 1), (0, 3), (2, 3))),
                ((("up", 1), up, ("up", 1), up), ((0, 1), (0, 3), (2, 3))),
                ((("up", 1), ("sum", 0, 1), up), ((0, 1), (0, 2))),
                ((part, rest, ("up", 1), ("sum", 0, 1)), ((0, 1, 2), (0, 1, 3))),
                (UPS + (("gap", 0, 1), ("most", 0, 2)), ((0, 1, 2),))):
            self.assertEqual(fewest(row), wanted, row)

    def test_all_rows(self):
        for row in ROWS + ((UPS[:2] + (("sum", 0, 1), ("sum", 0, 2), ("sum", 1, 2))),):
            enough = [chosen for many in range(len(row) + 1) for chosen in itertools.combinations(range(len(row)), many)
                      if plain_form(tuple(row[at] for at in chosen)) == plain_form(row)]
            wanted = sorted(chosen for chosen in enough if len(chosen) == min(map(len, enough)))
            self.assertEqual(fewest(row), tuple(wanted), row)

    def test_keys_that_could_stand_either_way_are_told_once(self):
        low, lower = ("among", 0, (0, 1, 2, 3)), ("among", 0, (0, 1))
        self.assertTrue(alike((low, lower), (lower, low)))
        self.assertEqual(fewest((low, lower)), ((0, 1),))
        self.assertEqual(fewest((("up", 1), low, lower)), ((0, 1, 2),))
        self.assertEqual(fewest((low, ("up", 1), lower, low)), ((0, 1, 2),))
        self.assertEqual(fewest((("up", 1), low, lower, low, lower)), ((0, 1, 2), (0, 1, 4), (0, 2, 3), (0, 3, 4)))

    def test_no_key_of_them_is_needless(self):
        for row in ROWS:
            for chosen in fewest(row):
                left = tuple(row[at] for at in chosen)
                self.assertTrue(alike(left, row), (row, chosen))
                self.assertEqual(needless(left), (), (row, chosen))


class Beyond(unittest.TestCase):
    def test_seven_keys(self):
        row = (("part", 0, 2), ("part", 0, 3)) + UPS + (("gap", 1, 2), ("up", 2))
        self.assertEqual(fewest(row), ((2, 3, 4), (2, 3, 6)))
        self.assertEqual(paper(row, UPS), ("alike", tuple(range(216))))
        self.assertIs(is_paper(row, UPS, ("alike", tuple(range(216)))), True)

    def test_keys_beyond_their_limits(self):
        row = (("among", 0, (0, 1, 2, 3, 4, 5)), ("up", 3), ("part", 0, 6))
        self.assertEqual(fewest(row), ((),))
        self.assertEqual(paper(row, ()), ("alike", (0,) * 216))


class AskedAgain(unittest.TestCase):
    def test_the_same_is_told_and_in_tuples(self):
        for one, other in ROW_PAIRS[::17]:
            before = repr((one, other))
            answers = []
            for again in range(2):
                found = paper(one, other)
                answers.append((found, is_paper(one, other, found), fewest(one)))
            self.assertEqual(repr(answers[0]), repr(answers[1]))
            self.assertTrue(is_of_told_kinds(answers[0]))
            self.assertEqual(repr((one, other)), before)

    def test_any_thing_asked_of_is_not_changed(self):
        thing = ["alike", [[1, 2], [[0]]]]
        self.assertIs(is_paper((), (), thing), False)
        self.assertEqual(thing, ["alike", [[1, 2], [[0]]]])
