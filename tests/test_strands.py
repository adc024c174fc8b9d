"""Strands and where they meet (point 21)."""

import itertools
import random
import unittest

from firetogether.strands import meet, place_at

FAR = 10 ** 59 + 7


def ref_meet(one, other, beats):
    """The first meeting by looking at one beat after the other; None where there is none for so many beats."""
    begin = max(one[1], other[1])
    for t in range(begin, begin + beats + 1):
        left, right = place_at(one, t), place_at(other, t)
        if left == right or left + 1 == right:
            return (t, left, right)
    return None


class Places(unittest.TestCase):
    def test_standing(self):
        for slow in (1, 2, 3, 9):
            for t in (4, 5, 6, 7, 100, FAR):
                self.assertEqual(place_at((7, 4, 0, slow), t), 7)

    def test_to_the_right(self):
        self.assertEqual([place_at((7, 4, 1, 1), t) for t in range(4, 9)], [7, 8, 9, 10, 11])
        self.assertEqual([place_at((7, 4, 1, 2), t) for t in range(4, 11)], [7, 7, 8, 8, 9, 9, 10])
        self.assertEqual([place_at((0, 0, 1, 3), t) for t in range(8)], [0, 0, 0, 1, 1, 1, 2, 2])
        self.assertEqual([place_at((0, 5, 1, 7), t) for t in (5, 11, 12, 18, 19)], [0, 0, 1, 1, 2])

    def test_to_the_left(self):
        self.assertEqual([place_at((7, 4, -1, 1), t) for t in range(4, 9)], [7, 6, 5, 4, 3])
        self.assertEqual([place_at((7, 4, -1, 2), t) for t in range(4, 11)], [7, 7, 6, 6, 5, 5, 4])
        self.assertEqual([place_at((1, 0, -1, 3), t) for t in range(8)], [1, 1, 1, 0, 0, 0, -1, -1])

    def test_at_its_beat(self):
        for way, slow in itertools.product((-1, 0, 1), (1, 2, 3, 50)):
            self.assertEqual(place_at((9, 13, way, slow), 13), 9)

    def test_sixty_figures(self):
        self.assertEqual(place_at((FAR, FAR, -1, 1), 2 * FAR), 0)
        self.assertEqual(place_at((5, FAR, 1, 3), 4 * FAR + 2), FAR + 5)
        self.assertEqual(place_at((5, 1, 1, FAR), FAR), 5)
        self.assertEqual(place_at((5, 1, 1, FAR), FAR + 1), 6)


class Meet(unittest.TestCase):
    def test_in_one_hand(self):
        self.assertEqual(meet((0, 0, 1, 1), (4, 0, -1, 1)), (2, 2, 2))
        self.assertEqual(meet((0, 0, 1, 3), (2, 2, -1, 1)), (3, 1, 1))
        self.assertEqual(meet((3, 6, 0, 1), (3, 0, -1, 7)), (6, 3, 3))

    def test_side_by_side(self):
        self.assertEqual(meet((0, 0, 1, 1), (5, 0, -1, 1)), (2, 2, 3))
        self.assertEqual(meet((0, 0, 1, 3), (3, 3, -1, 1)), (4, 1, 2))
        # Those who could be in one hand are side by side first.
        self.assertEqual(meet((0, 0, 1, 1), (4, 0, 0, 1)), (3, 3, 4))
        self.assertEqual(meet((0, 0, 0, 1), (4, 0, -1, 1)), (3, 0, 1))

    def test_at_once(self):
        for one, other in itertools.product((0, 1), (0, -1)):
            self.assertEqual(meet((5, 3, one, 1), (5, 3, other, 1)), (3, 5, 5))
            self.assertEqual(meet((5, 3, one, 2), (6, 3, other, 1)), (3, 5, 6))
        self.assertIsNone(meet((5, 3, 0, 1), (7, 3, 0, 1)))

    def test_never(self):
        for apart in (2, 3, 50, FAR):
            self.assertIsNone(meet((5, 3, 0, 1), (5 + apart, 9, 0, 2)))

    def test_of_unlike_beats(self):
        # Both are looked at from the later beat on, where the first may have come nearer already.
        self.assertEqual(meet((0, 0, 1, 1), (9, 4, -1, 1)), (6, 6, 7))
        self.assertEqual(meet((0, 4, 1, 1), (9, 0, -1, 1)), (6, 2, 3))
        self.assertEqual(meet((0, 0, 1, 1), (9, 9, -1, 1)), (9, 9, 9))
        self.assertEqual(meet((0, 0, 1, 1), (9, 8, -1, 1)), (8, 8, 9))
        self.assertEqual(meet((0, 0, 1, 2), (9, 7, 0, 1)), (16, 8, 9))
        self.assertEqual(meet((0, 7, 0, 1), (9, 0, -1, 2)), (16, 0, 1))

    def test_slowness(self):
        self.assertEqual(meet((0, 0, 1, 2), (10, 0, -1, 3)), (12, 6, 6))
        self.assertEqual(meet((0, 0, 1, 5), (3, 0, -1, 40)), (10, 2, 3))
        self.assertEqual(meet((0, 0, 1, 40), (3, 0, -1, 5)), (10, 0, 1))

    def test_as_beat_by_beat(self):
        rng = random.Random(91)
        never = 0
        for turn in range(3000):
            one = (rng.randrange(-5, 6), rng.randrange(8), rng.choice([0, 1]), rng.choice([1, 1, 2, 3, 4, 7]))
            other = (rng.randrange(0, 20), rng.randrange(8), rng.choice([0, -1]), rng.choice([1, 1, 2, 3, 4, 7]))
            begin = max(one[1], other[1])
            if place_at(one, begin) <= place_at(other, begin):
                told = meet(one, other)
                self.assertEqual(told, ref_meet(one, other, 400), (one, other))
                self.assertIsInstance(told, (tuple, type(None)))
                never += told is None
        self.assertGreater(never, 20)

    def test_sixty_figures(self):
        self.assertEqual(meet((0, 0, 1, 1), (2 * FAR, 0, -1, 1)), (FAR, FAR, FAR))
        self.assertEqual(meet((0, 0, 1, 1), (2 * FAR + 1, 0, -1, 1)), (FAR, FAR, FAR + 1))
        self.assertEqual(meet((0, 0, 1, 3), (2 * FAR, 2 * FAR, -1, 1)), (3 * FAR, FAR, FAR))
        self.assertEqual(meet((0, 0, 0, 1), (FAR, 5, -1, 3)), (5 + 3 * (FAR - 1), 0, 1))
        self.assertEqual(meet((0, FAR, 1, FAR), (10, 0, 0, 1)), (FAR + 9 * FAR, 9, 10))
        self.assertEqual(meet((0, 0, 1, FAR), (FAR, 0, 0, 1)), (FAR * (FAR - 1), FAR - 1, FAR))

    def test_sixty_figures_are_near_first_there(self):
        rng = random.Random(92)
        for turn in range(100):
            one = (rng.randrange(FAR), rng.randrange(FAR), 1, rng.randrange(1, 50))
            other = (4 * FAR + rng.randrange(FAR), rng.randrange(FAR), rng.choice([0, -1]), rng.randrange(1, 50))
            t, left, right = meet(one, other)
            self.assertEqual((left, right), (place_at(one, t), place_at(other, t)))
            self.assertIn(right - left, (0, 1))
            self.assertGreater(place_at(other, t - 1) - place_at(one, t - 1), 1)
