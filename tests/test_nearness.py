"""How long hands are alike near by (points 3 a, 10 and 11)."""

import unittest

from firetogether.nearness import bar, ring_bar, ring_unlike_from, unlike_from
from firetogether.rings import ring_to
from firetogether.rows import open_row, row_to
from tests.helpers import chance_machines, counting, house, rows_of

BIG = 10 ** 59 + 7

# A wave runs to the right end and comes back as another one: word of the end is had as soon as can be.
ECHO = ("table", "o", "g", "f", rows_of(
    "- g - p, - g o p, g o o r, g o - l, r o o r, r o - l, p r o o, o r o o"
    ", o o l l, p o l l, o l o o, o l - o, p l o o, p l - o, - p l f"))


class Numbers(unittest.TestCase):
    def test_unlike_from(self):
        self.assertEqual(unlike_from(1, 0, 0), 0)
        self.assertEqual(unlike_from(5, 0, 0), 8)
        self.assertEqual(unlike_from(5, 0, 4), 4)
        self.assertEqual(unlike_from(5, 4, 0), 4)
        self.assertEqual(unlike_from(5, 4, 4), 0)
        self.assertEqual(unlike_from(7, 2, 3), 7)
        self.assertEqual(unlike_from(BIG, 3, BIG - 1), BIG - 4)
        self.assertEqual(unlike_from(BIG, 10 ** 58, 10 ** 57), 2 * BIG - 2 - 10 ** 58 - 10 ** 57)

    def test_ring_unlike_from(self):
        self.assertEqual([ring_unlike_from(7, x) for x in range(7)], [7, 6, 5, 4, 4, 5, 6])
        self.assertEqual([ring_unlike_from(6, x) for x in range(6)], [6, 5, 4, 3, 4, 5])
        self.assertEqual([ring_unlike_from(3, x) for x in range(3)], [3, 2, 2])
        self.assertEqual(ring_unlike_from(BIG, 5), BIG - 5)
        self.assertEqual(ring_unlike_from(BIG, BIG - 5), BIG - 5)
        self.assertEqual(ring_unlike_from(2 * BIG, BIG), BIG)

    def test_bar(self):
        self.assertEqual(bar(1, 0), 0)
        self.assertEqual([bar(5, k) for k in range(5)], [8, 7, 6, 7, 8])
        self.assertEqual([bar(6, k) for k in range(6)], [10, 9, 8, 8, 9, 10])
        self.assertEqual(bar(BIG, 0), 2 * BIG - 2)
        self.assertEqual(bar(BIG, BIG - 1), 2 * BIG - 2)
        self.assertEqual(bar(2 * BIG + 1, BIG), 3 * BIG)

    def test_ring_bar(self):
        self.assertEqual([ring_bar(n) for n in (3, 4, 60, BIG)], [3, 4, 60, BIG])


class Runs(unittest.TestCase):
    def machines(self):
        return chance_machines(30, 3, 41) + [house("g"), house("w"), counting(6), ECHO, ("slowed", 2, ECHO)]

    def test_rows_are_alike_below_the_told_beat(self):
        for machine in self.machines():
            for n in (1, 2, 4, 6):
                for k in {0, n // 2, n - 1}:
                    beats = unlike_from(n, k, 0)
                    rows = row_to(machine, n, k, beats)
                    for more in (1, 2, 5):
                        longer = row_to(machine, n + more, k, beats)
                        for x in range(n):
                            for t in range(unlike_from(n, k, x)):
                                self.assertEqual(rows[t][x], longer[t][x])

    def test_rows_are_unlike_at_the_told_beat(self):
        for n in (2, 3, 6):
            rows = row_to(ECHO, n, 0, 2 * n)
            longer = row_to(ECHO, n + 1, 0, 2 * n)
            for x in range(n):
                t = unlike_from(n, 0, x)
                self.assertNotEqual(rows[t][x], longer[t][x], (n, x))

    def test_rings_are_as_the_open_row_below_the_told_beat(self):
        for machine in self.machines():
            for n in (3, 4, 7, 8):
                rings = ring_to(machine, n, 0, n)
                for x in range(n):
                    place = x - n if n - x < x else x
                    for t in range(ring_unlike_from(n, x)):
                        quiet = row_to(machine, 2, 0, 0)[0][1]
                        opened = open_row(machine, t)
                        state = opened[place + t] if abs(place) <= t else quiet
                        self.assertEqual(rings[t][x], state)

    def test_rings_are_unlike_at_the_told_beat(self):
        # Where the two waves of a ring meet, and only there, it is heard of: that goes back by either side.
        table = ("table", "o", "g", "f", rows_of("g o o r, r o o r, o o g l, o o l l, r o l h, r o g h, g o l h,"
                                                 "r l o h, r r l h, r l l h, h r r h, l l h h, r r h h, h l l h"))
        for n in (5, 7):
            rings = ring_to(table, n, 0, n)
            opened = open_row(table, ring_unlike_from(n, n // 2))
            t = ring_unlike_from(n, n // 2)
            self.assertNotEqual(rings[t][n // 2], opened[t + n // 2])
