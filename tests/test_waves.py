"""The waves of a stretch (points 3 g and 22)."""

import unittest

from firetogether.seen import seen
from firetogether.strands import meet, place_at
from firetogether.stretches import levels, stretch
from firetogether.waves import waves
from tests.helpers import BIGS


def all_stretches(n):
    """The level and the number of each stretch of 3 hands or more."""
    return [(level, i) for level in range(len(levels(n))) for i in range(2 ** level)]


def some_stretches(n):
    """The level and the number of some stretches of a row that has too many of them."""
    many = len(levels(n))
    return [(level, i) for level in [0, 1, 2] + list(range(3, many - 3, 7)) + [many - 3, many - 2, many - 1]
            for i in sorted({0, 1, 2 ** level // 3, 2 ** level // 2, 2 ** level - 1}) if i < 2 ** level]


class Waves(unittest.TestCase):
    def test_of_level_0(self):
        self.assertEqual(waves(3, 0, 0), (
            ("out", (0, 0, 1, 1), 1), ("back", (2, 2, -1, 1), 2), ("slow", (0, 0, 1, 3), 2)))
        self.assertEqual(waves(4, 0, 0), (
            ("out", (0, 0, 1, 1), 2), ("back", (3, 3, -1, 1), 4), ("slow", (0, 0, 1, 3), 4)))
        self.assertEqual(waves(9, 0, 0), (
            ("out", (0, 0, 1, 1), 7), ("back", (8, 8, -1, 1), 11), ("slow", (0, 0, 1, 3), 11)))

    def test_of_either_side(self):
        self.assertEqual(waves(5, 1, 0), (
            ("out", (2, 6, -1, 1), 7), ("back", (0, 8, 1, 1), 8), ("slow", (2, 6, -1, 3), 8)))
        self.assertEqual(waves(5, 1, 1), (
            ("out", (2, 6, 1, 1), 7), ("back", (4, 8, -1, 1), 8), ("slow", (2, 6, 1, 3), 8)))
        self.assertEqual(waves(8, 1, 0), (
            ("out", (3, 11, -1, 1), 13), ("back", (0, 14, 1, 1), 15), ("slow", (3, 11, -1, 3), 15)))
        self.assertEqual(waves(8, 1, 1), (
            ("out", (4, 11, 1, 1), 13), ("back", (7, 14, -1, 1), 15), ("slow", (4, 11, 1, 3), 15)))

    def check(self, n, level, i):
        hands, begun, hit, met = levels(n)[level]
        begin, end, side = stretch(n, level, i)
        post, far, way = {0: (begin, end, 1), 1: (end, begin, -1)}[side]
        out, back, slow = waves(n, level, i)
        self.assertEqual(out, ("out", (post, begun, way, 1), begun + hands - 2))
        self.assertEqual(back, ("back", (far, hit, -way, 1), met - 1))
        self.assertEqual(slow, ("slow", (post, begun, way, 3), met - 1))
        self.assertEqual(place_at(out[1], out[2] + 1), far)
        self.assertEqual(out[2] + 1, hit)
        # The next level's posts stand where back and slow meet.
        left, right = stretch(n, level + 1, 2 * i)[1], stretch(n, level + 1, 2 * i + 1)[0]
        one, other = (slow[1], back[1]) if side == 0 else (back[1], slow[1])
        self.assertEqual(meet(one, other), (met if hands % 2 == 1 else met - 1, left, right))
        self.assertEqual(left == right, hands % 2 == 1)

    def test_each_stretch(self):
        for n in range(3, 70):
            for level, i in all_stretches(n):
                self.check(n, level, i)

    def test_sixty_figures(self):
        for n in BIGS:
            for level, i in some_stretches(n):
                self.check(n, level, i)

    def test_they_are_seen_up_to_their_last_beats(self):
        for n in range(3, 40):
            for level, i in all_stretches(n):
                side = stretch(n, level, i)[2]
                away, home, slows = {0: ("r", "l", ("ra", "rb", "rc")), 1: ("l", "r", ("la", "lb", "lc"))}[side]
                out, back, slow = waves(n, level, i)
                for t in range(out[1][1] + 1, out[2] + 1):
                    self.assertEqual(seen(n, place_at(out[1], t), t), away)
                for t in range(back[1][1] + 1, back[2] + 1):
                    self.assertEqual(seen(n, place_at(back[1], t), t), home)
                for t in range(slow[1][1] + 3, slow[2] + 1):
                    self.assertEqual(seen(n, place_at(slow[1], t), t), slows[(t - slow[1][1]) % 3])
                self.assertEqual(seen(n, place_at(back[1], back[1][1]), back[1][1]), "h")

    def test_kinds_and_told_again(self):
        told = waves(9, 1, 0)
        self.assertIsInstance(told, tuple)
        self.assertTrue(all(isinstance(wave, tuple) and isinstance(wave[1], tuple) for wave in told))
        self.assertEqual(waves(9, 1, 0), told)
