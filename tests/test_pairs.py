"""[0.2](f), [0.3], [5.1]."""

import functools
import itertools
import random
import unittest

from keyorders.errors import OrderError, Ring
from keyorders.pairs import bare, closed, free_pairs, least_order, levels, orders, ring
from tests.helper import is_of_told_kinds

REFUSING = (bare, functools.partial(orders, many=6), functools.partial(least_order, many=6),
            functools.partial(levels, many=6))


def all_pairs(many):
    return tuple(itertools.permutations(range(many), 2))


def every_choice(many):
    """All tuples of pairs of numbers below many."""
    whole = all_pairs(many)
    return [pairs for size in range(len(whole) + 1) for pairs in itertools.combinations(whole, size)]


def some_choices():
    """Pairs of numbers below 5 and 6: few and many, with and without rings."""
    chance = random.Random(51)
    found = []
    for many, size in itertools.product((5, 6), (1, 2, 3, 4, 5, 6, 8, 10, 12)):
        for step in range(6):
            found.append(tuple(sorted(chance.sample(all_pairs(many), size))))
            order = chance.sample(range(many), many)
            rising = list(itertools.combinations(order, 2))
            found.append(tuple(sorted(chance.sample(rising, min(size, len(rising))))))
    found += [all_pairs(6), tuple(itertools.combinations(range(6), 2)), tuple((k, k + 1) for k in range(5)),
              ((0, 1), (1, 2), (2, 3), (3, 4), (4, 5), (5, 0))]
    return found


CHOICES = every_choice(3) + every_choice(4)[::5] + some_choices()


def plain_reached(pairs, start):
    """All numbers to which a chain of one pair or more leads."""
    found, ends = set(), [start]
    while ends:
        end = ends.pop()
        for first, second in pairs:
            if first == end and second not in found:
                found.add(second)
                ends.append(second)
    return found


def plain_closed(pairs):
    numbers = sorted({number for pair in pairs for number in pair})
    return tuple((one, other) for one in numbers for other in sorted(plain_reached(pairs, one)))


def plain_rings(pairs):
    """All rings, from the least number on, by trying all tuples of unlike numbers."""
    return [path for many in range(2, 7) for path in itertools.permutations(range(6), many)
            if path[0] == min(path) and all(pair in pairs for pair in zip(path, path[1:] + path[:1]))]


def plain_orders(pairs, many):
    return tuple(order for order in itertools.permutations(range(many))
                 if all(order.index(first) < order.index(second) for first, second in pairs))


def plain_level(pairs, number):
    """Chains up to the number, made longer one by one till none goes on."""
    chains, longest = [(number,)], 0
    while chains:
        longest = len(chains[0]) - 1
        chains = [(first,) + chain for chain in chains for first, second in pairs if second == chain[0]]
    return longest


def least_many(pairs):
    return max([number for pair in pairs for number in pair], default=0) + 1


def counts(pairs):
    """The least count that may be asked with, and the greatest."""
    return sorted({least_many(pairs), 6})


class Closed(unittest.TestCase):
    def test_by_hand(self):
        self.assertEqual(closed(()), ())
        self.assertEqual(closed(((4, 2),)), ((4, 2),))
        self.assertEqual(closed(((0, 1), (1, 2), (2, 3))), ((0, 1), (0, 2), (0, 3), (1, 2), (1, 3), (2, 3)))
        self.assertEqual(closed(((0, 1), (2, 1))), ((0, 1), (2, 1)))
        self.assertEqual(closed(((3, 1), (5, 3))), ((3, 1), (5, 1), (5, 3)))

    def test_in_a_ring_also_of_a_number_and_itself(self):
        self.assertEqual(closed(((0, 1), (1, 0))), ((0, 0), (0, 1), (1, 0), (1, 1)))
        self.assertEqual(closed(((1, 2), (2, 1), (2, 3))), ((1, 1), (1, 2), (1, 3), (2, 1), (2, 2), (2, 3)))

    def test_choices(self):
        for pairs in CHOICES:
            self.assertEqual(closed(pairs), plain_closed(pairs), pairs)


class Rings(unittest.TestCase):
    def test_by_hand(self):
        for pairs, least in (((), None), (((0, 1),), None), (((0, 1), (1, 0)), (0, 1)),
                             (((3, 4), (4, 5), (5, 3)), (3, 4, 5)), (((3, 5), (4, 3), (5, 4)), (3, 5, 4)),
                             (((0, 2), (1, 2), (2, 1)), (1, 2)),
                             (((0, 1), (1, 2), (2, 0), (4, 5), (5, 4)), (0, 1, 2)),
                             (((0, 1), (0, 2), (1, 2), (2, 0)), (0, 1, 2)),
                             (((0, 1), (1, 0), (1, 2), (2, 0)), (0, 1)),
                             (((0, 3), (1, 2), (2, 1), (3, 0)), (0, 3)),
                             (((0, 1), (1, 3), (2, 0), (3, 1), (3, 2)), (0, 1, 3, 2))):
            self.assertEqual(ring(pairs), least, pairs)

    def test_choices(self):
        for pairs in CHOICES:
            self.assertEqual(ring(pairs), min(plain_rings(pairs), default=None), pairs)


class Refused(unittest.TestCase):
    def test_a_ring(self):
        for pairs in (((0, 1), (1, 0)), ((0, 1), (1, 2), (2, 0)), ((0, 5), (3, 4), (4, 3)), all_pairs(6)):
            before = repr(pairs)
            for ask in REFUSING:
                with self.assertRaises(Ring) as caught:
                    ask(pairs)
                self.assertIsInstance(caught.exception, OrderError)
            self.assertEqual(repr(pairs), before)

    def test_just_if_there_is_a_ring(self):
        for pairs in CHOICES:
            is_ring = ring(pairs) is not None
            self.assertIs(is_ring, not plain_orders(pairs, least_many(pairs)), pairs)
            for ask in REFUSING[:1] + REFUSING[2:]:
                try:
                    ask(pairs)
                    self.assertFalse(is_ring, (ask, pairs))
                except Ring:
                    self.assertTrue(is_ring, (ask, pairs))

    def test_closed_and_free_pairs_are_told_of_a_ring(self):
        self.assertEqual(free_pairs(((0, 1), (1, 0)), 3), ((0, 2), (1, 2)))
        self.assertEqual(free_pairs(((0, 1), (1, 2), (2, 0)), 4), ((0, 3), (1, 3), (2, 3)))


class Bare(unittest.TestCase):
    def test_by_hand(self):
        self.assertEqual(bare(()), ())
        self.assertEqual(bare(((0, 1), (0, 2), (1, 2))), ((0, 1), (1, 2)))
        self.assertEqual(bare(((0, 1), (0, 3), (1, 2), (2, 3))), ((0, 1), (1, 2), (2, 3)))
        self.assertEqual(bare(((0, 1), (0, 2))), ((0, 1), (0, 2)))
        self.assertEqual(bare(tuple(itertools.combinations(range(6), 2))), ((0, 1), (1, 2), (2, 3), (3, 4), (4, 5)))

    def test_choices(self):
        for pairs in CHOICES:
            if ring(pairs) is None:
                found = bare(pairs)
                self.assertEqual(plain_closed(found), plain_closed(pairs), pairs)
                self.assertEqual(found, tuple(sorted(found)))
                for pair in found:
                    left = tuple(other for other in found if other != pair)
                    self.assertNotEqual(plain_closed(left), plain_closed(pairs), (pairs, pair))


class Orders(unittest.TestCase):
    def test_by_hand(self):
        self.assertEqual(orders((), 1), ((0,),))
        self.assertEqual(orders((), 2), ((0, 1), (1, 0)))
        self.assertEqual(orders(((1, 0),), 2), ((1, 0),))
        self.assertEqual(orders(((0, 2),), 3), ((0, 1, 2), (0, 2, 1), (1, 0, 2)))
        self.assertEqual(orders(((2, 0), (2, 1)), 3), ((2, 0, 1), (2, 1, 0)))
        self.assertEqual(orders((), 6), tuple(itertools.permutations(range(6))))
        self.assertEqual(least_order((), 1), (0,))
        self.assertEqual(least_order((), 6), (0, 1, 2, 3, 4, 5))
        self.assertEqual(least_order(((5, 0),), 6), (1, 2, 3, 4, 5, 0))
        self.assertEqual(least_order(((3, 1),), 4), (0, 2, 3, 1))
        self.assertEqual(least_order(((1, 0), (2, 1)), 4), (2, 1, 0, 3))

    def test_choices(self):
        for pairs in CHOICES:
            for many in counts(pairs) if ring(pairs) is None else ():
                plain = plain_orders(pairs, many)
                self.assertEqual(least_order(pairs, many), plain[0], (pairs, many))
                if many < 6 or len(plain) < 200:
                    self.assertEqual(orders(pairs, many), plain, (pairs, many))


class Levels(unittest.TestCase):
    def test_by_hand(self):
        self.assertEqual(levels((), 1), (0,))
        self.assertEqual(levels((), 3), (0, 0, 0))
        self.assertEqual(levels(((0, 1), (0, 2), (1, 2)), 4), (0, 1, 2, 0))
        self.assertEqual(levels(((1, 0), (2, 1), (3, 0)), 4), (2, 1, 0, 0))
        self.assertEqual(levels(tuple((k, k + 1) for k in range(5)), 6), (0, 1, 2, 3, 4, 5))

    def test_choices(self):
        for pairs in CHOICES:
            for many in counts(pairs) if ring(pairs) is None else ():
                self.assertEqual(levels(pairs, many), tuple(plain_level(pairs, number) for number in range(many)))


class FreePairs(unittest.TestCase):
    def test_by_hand(self):
        self.assertEqual(free_pairs((), 1), ())
        self.assertEqual(free_pairs((), 3), ((0, 1), (0, 2), (1, 2)))
        self.assertEqual(free_pairs(((1, 0),), 3), ((0, 2), (1, 2)))
        self.assertEqual(free_pairs(((0, 1), (1, 2)), 4), ((0, 3), (1, 3), (2, 3)))
        self.assertEqual(free_pairs(tuple((k, k + 1) for k in range(5)), 6), ())

    def test_choices(self):
        for pairs in CHOICES:
            whole = plain_closed(pairs)
            for many in counts(pairs):
                free = tuple((one, other) for one, other in itertools.combinations(range(many), 2)
                             if (one, other) not in whole and (other, one) not in whole)
                self.assertEqual(free_pairs(pairs, many), free, (pairs, many))


class Beyond(unittest.TestCase):
    def test_numbers_and_counts(self):
        self.assertEqual(closed(((6, 7), (7, 8))), ((6, 7), (6, 8), (7, 8)))
        self.assertEqual(ring(((6, 7), (7, 6))), (6, 7))
        self.assertEqual(least_order(((7, 0),), 8), (1, 2, 3, 4, 5, 6, 7, 0))
        self.assertEqual(len(orders((), 7)), 5040)
        self.assertEqual(levels(((6, 0),), 7), (1, 0, 0, 0, 0, 0, 0))
        for many in (-1, 0):
            self.assertEqual(orders((), many), ((),))
            self.assertEqual((least_order((), many), levels((), many), free_pairs((), many)), ((), (), ()))

    def test_numbers_that_are_not_below_many(self):
        pairs = ((-1, 1), (1, 5), (5, 0))
        self.assertEqual(orders(pairs, 2), ((1, 0),))
        self.assertEqual(least_order(pairs, 3), (1, 0, 2))
        self.assertEqual(levels(pairs, 2), (3, 1))
        self.assertEqual(free_pairs(pairs, 3), ((0, 2), (1, 2)))
        self.assertEqual(bare(pairs), pairs)


class AskedAgain(unittest.TestCase):
    def test_the_same_is_told_and_in_tuples(self):
        for pairs in CHOICES[::3]:
            before = repr(pairs)
            answers = []
            for again in range(2):
                answer = [closed(pairs), ring(pairs), free_pairs(pairs, 6)]
                if ring(pairs) is None:
                    many = least_many(pairs)
                    answer += [bare(pairs), orders(pairs, many), least_order(pairs, many), levels(pairs, many)]
                answers.append(tuple(answer))
            self.assertEqual(repr(answers[0]), repr(answers[1]))
            self.assertTrue(is_of_told_kinds(answers[0]))
            self.assertEqual(repr(pairs), before)
