"""Trees and the tours round them (point 27)."""

import itertools
import unittest

from firetogether.errors import FireError, NoTree
from firetogether.trees import is_tree, tour
from tests.helpers import anythings, brief

CHAIN = tuple(range(29))
STAR = (0,) * 29
FORK = (0, 0, 1, 1, 2, 2, 6)


def all_trees(n):
    """All trees of n hands."""
    return list(itertools.product(*[range(k + 1) for k in range(n - 1)]))


def ref_neighbours(tree, hand):
    ties = [(k + 1, tied) for k, tied in enumerate(tree)]
    return sorted([other for one, other in ties if one == hand] + [one for one, other in ties if other == hand])


def ref_tour(tree, r):
    """The tour by the words of the point, till it would begin again."""
    seats, came, hand = [r], r, ref_neighbours(tree, r)[0]
    first = (came, hand)
    while True:
        above = [other for other in ref_neighbours(tree, hand) if other > came]
        onward = above[0] if above else ref_neighbours(tree, hand)[0]
        seats.append(hand)
        came, hand = hand, onward
        if (came, hand) == first:
            return tuple(seats[:-1])


class Trees(unittest.TestCase):
    def good(self, thing):
        self.assertIs(is_tree(thing), True, brief(thing))

    def bad(self, thing):
        self.assertIs(is_tree(thing), False, brief(thing))

    def test_the_least(self):
        self.good((0, 0))
        self.good((0, 1))

    def test_others(self):
        for tree in (CHAIN, STAR, FORK, (0, 1, 0, 3, 2), (0, 1, 2, 2, 0)):
            self.good(tree)
        for n in (3, 4, 5):
            for tree in all_trees(n):
                self.good(tree)

    def test_three_hands_or_more(self):
        self.bad((0,))
        self.bad(())
        self.bad((1,))

    def test_each_number_is_of_0_to_its_place(self):
        for at in range(len(FORK)):
            for number in range(at + 1):
                self.good(FORK[:at] + (number,) + FORK[at + 1:])
            for number in (-1, -2, at + 1, at + 2, 10 ** 60, -10 ** 60):
                self.bad(FORK[:at] + (number,) + FORK[at + 1:])
        self.bad((1, 0))
        self.bad((0, 2))
        self.bad((0, -1))

    def test_truths_are_no_numbers(self):
        self.good((0, 1, 1))
        self.bad((False, 1, 1))
        self.bad((0, True, 1))
        self.bad((0, 1, True))
        self.bad((0, False))

    def test_lists_and_other_kinds(self):
        for thing in ([0, 1], [], {0: 0, 1: 1}, "01", b"01", b"\x00\x00", range(2), {0, 1}, ([0], [1]), ((0, 1),), (0, [1]),
                      (0, (1,)), ("0", "1"), (0, None), (None, 0), (0, "")):
            self.bad(thing)

    def test_of_anything(self):
        for thing in anythings():
            self.bad(thing)
            if not isinstance(thing, int) or isinstance(thing, bool) or thing not in (0, 1):
                self.bad((0, thing))
            if not isinstance(thing, int) or isinstance(thing, bool) or thing != 0:
                self.bad((thing, 0))


class Tours(unittest.TestCase):
    def test_small(self):
        self.assertEqual(tour((0, 0), 0), (0, 1, 0, 2))
        self.assertEqual(tour((0, 0), 1), (1, 0, 2, 0))
        self.assertEqual(tour((0, 0), 2), (2, 0, 1, 0))
        self.assertEqual(tour((0, 1), 0), (0, 1, 2, 1))
        self.assertEqual(tour((0, 1), 1), (1, 0, 1, 2))
        self.assertEqual(tour((0, 1), 2), (2, 1, 0, 1))

    def test_behind_the_greatest_to_the_least(self):
        self.assertEqual(tour((0, 0, 0), 2), (2, 0, 3, 0, 1, 0))
        self.assertEqual(tour((0, 0, 0), 3), (3, 0, 1, 0, 2, 0))
        self.assertEqual(tour((0, 0, 1, 1), 0), (0, 1, 3, 1, 4, 1, 0, 2))
        self.assertEqual(tour((0, 0, 1, 1), 1), (1, 0, 2, 0, 1, 3, 1, 4))
        self.assertEqual(tour((0, 0, 1, 1), 3), (3, 1, 4, 1, 0, 2, 0, 1))

    def test_chain_and_star(self):
        self.assertEqual(tour(CHAIN, 0), tuple(range(30)) + tuple(range(28, 0, -1)))
        self.assertEqual(tour(CHAIN, 29), tuple(range(29, -1, -1)) + tuple(range(1, 29)))
        self.assertEqual(tour(STAR, 0), tuple(x for hand in range(1, 30) for x in (0, hand)))

    def test_from_each_hand_of_each_tree(self):
        trees = [tree for n in (3, 4, 5, 6) for tree in all_trees(n)] + [CHAIN, STAR, FORK]
        for tree in trees:
            hands = len(tree) + 1
            for r in range(hands):
                told = tour(tree, r)
                self.assertIsInstance(told, tuple)
                self.assertEqual(len(told), 2 * (hands - 1))
                self.assertEqual(told[:2], (r, min(ref_neighbours(tree, r))))
                self.assertEqual(told, ref_tour(tree, r))
                steps = list(zip(told, told[1:] + told[:1]))
                self.assertEqual(len(set(steps)), len(steps))
                self.assertTrue(all(other in ref_neighbours(tree, one) for one, other in steps))

    def test_told_again(self):
        self.assertEqual(tour(FORK, 3), tour(FORK, 3))


class Refused(unittest.TestCase):
    def refused(self, tree, r):
        with self.assertRaises(NoTree, msg=(brief(tree), brief(r))):
            tour(tree, r)

    def test_no_tree(self):
        for thing in anythings() + [(0,), (1, 0), (0, 2), (0, -1), (0, True), [0, 1], (0, [1])]:
            for r in (0, 1, -1, None, True, "a", [], 10 ** 60):
                self.refused(thing, r)

    def test_no_hand_of_it(self):
        for r in (-1, -2, 8, 9, 10 ** 60, -10 ** 60):
            self.refused(FORK, r)
        self.assertEqual(tour(FORK, 7)[0], 7)
        self.refused((0, 0), 3)
        self.refused((0, 0), -1)

    def test_a_hand_of_another_kind(self):
        for r in (True, False, None, "", "0", "a", b"0", [], [0], (), (0,), {}, {0: 0}, set()):
            self.refused(FORK, r)

    def test_a_hand_of_anything(self):
        for thing in anythings():
            if isinstance(thing, int) and not isinstance(thing, bool) and 0 <= thing <= 7:
                continue
            self.refused(FORK, thing)

    def test_a_refusal_of_the_programs_own(self):
        with self.assertRaises(FireError):
            tour(None, 0)
