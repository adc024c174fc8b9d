"""The beats at which the house's machine fires (points 3 b and 19)."""

import unittest

from firetogether.beats import anywhere_beat, ones, ring_beat, row_beat
from firetogether.house import anywhere_machine, ring_machine, row_machine
from firetogether.rings import ring_first
from firetogether.rows import row_first
from tests.helpers import house_beat, house_ring_beat

BIG = 10 ** 59 + 7


class Ones(unittest.TestCase):
    def test_small(self):
        self.assertEqual([ones(number) for number in range(17)], [0, 1, 1, 2, 1, 2, 2, 3, 1, 2, 2, 3, 2, 3, 3, 4, 1])

    def test_powers_of_two_and_beside_them(self):
        for k in range(2, 203):
            self.assertEqual([ones(2 ** k - 1), ones(2 ** k), ones(2 ** k + 1)], [k, 1, 2])

    def test_sixty_figures(self):
        for number in (10 ** 59, BIG, 10 ** 60 - 1, 10 ** 61 - 1, 123456789 * 10 ** 51 + 987654321):
            self.assertEqual(ones(number), bin(number).count("1"))


class Beats(unittest.TestCase):
    def test_rows(self):
        self.assertEqual([row_beat(n) for n in range(1, 10)], [1, 2, 4, 6, 10, 12, 15, 17, 22])

    def test_rings(self):
        self.assertEqual([ring_beat(n) for n in range(3, 10)], [6, 10, 12, 15, 17, 22, 24])

    def test_anywhere(self):
        self.assertEqual([anywhere_beat(1, 0), anywhere_beat(2, 0), anywhere_beat(2, 1)], [2, 3, 4])
        self.assertEqual([anywhere_beat(5, k) for k in range(5)], [11, 12, 13, 14, 15])

    def test_sixty_figures(self):
        for n in (10 ** 59, BIG, 10 ** 60 - 1, 10 ** 61 - 1, 2 ** 199, 2 ** 199 + 1):
            self.assertEqual(row_beat(n), 3 * (n - 1) - bin(n - 1).count("1") - 1)
            self.assertEqual(ring_beat(n), 3 * n - bin(n).count("1") - 1)
            self.assertEqual(anywhere_beat(n, n - 1), n + row_beat(n))
            self.assertEqual(anywhere_beat(n, 0), 1 + row_beat(n))
            self.assertEqual(anywhere_beat(n, 10 ** 50), 10 ** 50 + 1 + row_beat(n))

    def test_as_the_other_telling(self):
        self.assertEqual([row_beat(n) for n in range(1, 300)], [house_beat(n) for n in range(1, 300)])
        self.assertEqual([ring_beat(n) for n in range(3, 300)], [house_ring_beat(n) for n in range(3, 300)])


class Runs(unittest.TestCase):
    # What row_first tells is the first beat at which any hand fires: none does so sooner.

    def test_rows_started_at_the_left_end(self):
        for n in list(range(1, 35)) + [60]:
            self.assertEqual(row_first(row_machine(), n, 0, 200), ("all", row_beat(n)), n)

    def test_rows_started_anywhere(self):
        for n in list(range(1, 13)) + [20]:
            for k in range(n):
                self.assertEqual(row_first(anywhere_machine(), n, k, 200), ("all", anywhere_beat(n, k)), (n, k))

    def test_rings_started_anywhere(self):
        for n in range(3, 31):
            for k in range(n) if n < 10 else (0, n // 2, n - 1):
                self.assertEqual(ring_first(ring_machine(), n, k, 200), ("all", ring_beat(n)), (n, k))
