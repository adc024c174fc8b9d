"""Marks, and the tables that fire just there (points 3 i and 35)."""

import unittest

from firetogether.marks import marked, marker
from firetogether.rows import row_to
from firetogether.tables import is_table
from tests.helpers import BIGS, ref_fires, ref_run

SLOWS = range(2, 10)


def places(n, slow, t):
    """Where the slow strand and the one that comes back stand at beat t."""
    return t // slow, n - 1 - (t - (n - 1))


def ref_marked(n, slow):
    """By the two strands, gone beat by beat."""
    left, right, stood = 0, n - 1, 0
    for t in range(1, n):
        stood = (stood + 1) % slow
        left += stood == 0
    while right - left > 1:
        t = t + 1
        stood = (stood + 1) % slow
        left += stood == 0
        right -= 1
    return (t, left, left) if left == right else (t + 1, left, right)


def firing(machine, row):
    return [x for x, state in enumerate(row) if ref_fires(machine, state)]


class Marked(unittest.TestCase):
    def test_small(self):
        self.assertEqual(marked(2, 2), (2, 0, 1))
        self.assertEqual(marked(3, 2), (3, 1, 2))
        self.assertEqual(marked(4, 2), (4, 2, 2))
        self.assertEqual(marked(2, 3), (2, 0, 1))
        self.assertEqual(marked(3, 3), (3, 1, 1))
        self.assertEqual(marked(9, 3), (12, 4, 4))
        self.assertEqual(marked(10, 3), (14, 4, 5))
        self.assertEqual(marked(2, 10 ** 60), (2, 0, 1))

    def test_beat_by_beat(self):
        for n in range(2, 70):
            for slow in list(range(2, 20)) + [50, 137, 138, 139, 1000]:
                told = marked(n, slow)
                self.assertIsInstance(told, tuple)
                self.assertEqual(told, ref_marked(n, slow), (n, slow))

    def test_sixty_figures(self):
        alone = 0
        for n in BIGS + (10 ** 59 + 1, 10 ** 59 + 2, 10 ** 59 + 3):
            for slow in (2, 3, 4, 9, 10 ** 20, 10 ** 59, 10 ** 60, 10 ** 61 - 1):
                t, left, right = marked(n, slow)
                beat = t if left == right else t - 1
                alone += left == right
                self.assertIn(right - left, (0, 1))
                self.assertEqual(places(n, slow, beat), (left, right))
                self.assertGreaterEqual(beat, n - 1)
                near = places(n, slow, beat - 1)
                self.assertTrue(near[1] - near[0] > 1 or beat == n - 1)
        self.assertGreater(alone, 5)


class Marker(unittest.TestCase):
    def test_a_table_the_same_when_asked_again(self):
        for slow in SLOWS:
            self.assertIs(is_table(marker(slow)), True)
            self.assertEqual(marker(slow), marker(slow))
            self.assertLess(len(marker(slow)[4]), 400)

    def test_just_the_marked_hands_fire(self):
        for slow in SLOWS:
            table = marker(slow)
            for n in range(2, 64):
                t, left, right = marked(n, slow)
                told = [firing(table, row) for row in row_to(table, n, 0, t)]
                self.assertEqual(told, [[]] * t + [sorted({left, right})], (slow, n))

    def test_nothing_new_is_met_in_longer_rows(self):
        for slow in SLOWS:
            table = marker(slow)
            met = [set(), set()]
            for n in range(2, 64):
                for row in row_to(table, n, 0, marked(n, slow)[0] - 1):
                    met[n > 44].update(zip((None,) + row[:-1], row, row[1:] + (None,)))
            self.assertLessEqual(met[1], met[0])

    def test_mirrored(self):
        for slow in SLOWS:
            machine = ("mirrored", marker(slow))
            for n in (2, 3, 4, 9, 16):
                t, left, right = marked(n, slow)
                told = [firing(machine, row) for row in ref_run(machine, n, n - 1, t, False)]
                self.assertEqual(told, [[]] * t + [sorted({n - 1 - left, n - 1 - right})])

    def test_later_and_slowed(self):
        for slow in SLOWS:
            for n in (2, 3, 4, 9, 16):
                t, left, right = marked(n, slow)
                for machine, last in ((("later", 5, marker(slow)), t + 5), (("slowed", 3, marker(slow)), 3 * t)):
                    told = [firing(machine, row) for row in row_to(machine, n, 0, last)]
                    self.assertEqual(told, [[]] * last + [sorted({left, right})])

    def test_either(self):
        for one in SLOWS:
            for other in SLOWS:
                machine = ("either", marker(one), marker(other))
                for n in (2, 5, 12):
                    marks = [marked(n, one), marked(n, other)]
                    last = min(marks)[0]
                    hands = {hand for mark in marks if mark[0] == last for hand in mark[1:]}
                    told = [firing(machine, row) for row in row_to(machine, n, 0, last)]
                    self.assertEqual(told, [[]] * last + [sorted(hands)])
