"""What is seen at any hand and beat of a row (points 3 b, 24 and 25)."""

import functools
import random
import unittest

from firetogether.beats import anywhere_beat, row_beat
from firetogether.house import anywhere_machine, row_machine
from firetogether.rows import row_to
from firetogether.seen import seen, seen_anywhere
from firetogether.stretches import levels
from tests.helpers import BIGS, HOUSE_TEXT, rows_of, stirring_places

NEWS = {row[:3]: row[3] for row in rows_of(HOUSE_TEXT)}


class Seen(unittest.TestCase):
    def test_small(self):
        self.assertEqual([seen(1, 0, t) for t in range(3)], ["g", "f", "f"])
        self.assertEqual([[seen(2, x, t) for x in range(2)] for t in range(4)],
                         [["g", "o"], ["ga", "h"], ["f", "f"], ["f", "f"]])
        self.assertEqual([" ".join(seen(5, x, t) for x in range(5)) for t in range(12)], [
            "g o o o o", "ga r o o o", "gb o r o o", "p ra o r o", "p rb o o h", "p rc o l p", "p o g o p",
            "p l ga r p", "h o gb o h", "p g p g p", "f f f f f", "f f f f f"])

    def test_each_hand_at_each_beat_as_it_is_run(self):
        for n in list(range(1, 34)) + [47, 60]:
            beats = row_beat(n) + 4
            rows = row_to(row_machine(), n, 0, beats)
            for t in range(beats + 1):
                self.assertEqual(tuple(seen(n, x, t) for x in range(n)), rows[t], (n, t))

    def test_sixty_figures_go_by_the_houses_rows(self):
        rng = random.Random(101)
        met = set()
        for n in BIGS[1::2]:
            told = functools.lru_cache(None)(lambda x, t: seen(n, x, t) if 0 <= x < n else "")
            for x, t in stirring_places(n, rng):
                for place in range(max(0, x - 1), min(n, x + 2)):
                    left, own, right = [told(place + at, t) for at in (-1, 0, 1)]
                    self.assertEqual(told(place, t + 1), NEWS.get((left, own, right), own), (n, place, t))
                    met.add((left, own, right))
        # Nearly all windows of the rows that are run are met there too, however far the hands stand apart.
        run = set()
        for n in range(3, 34):
            for row in row_to(row_machine(), n, 0, row_beat(n)):
                run.update(zip(("",) + row[:-1], row, row[1:] + ("",)))
        self.assertLessEqual(met, run)
        self.assertGreater(len(met), 75)

    def test_sixty_figures_at_their_beginning_and_end(self):
        for n in BIGS:
            self.assertEqual([seen(n, x, 0) for x in (0, 1, 2, n // 2, n - 2, n - 1)], ["g", "o", "o", "o", "o", "o"])
            self.assertEqual([seen(n, n - 1, t) for t in (n - 2, n - 1, n, n + 1)], ["o", "h", "p", "p"])
            self.assertEqual(seen(n, n // 3, n // 3), "r")
            self.assertEqual(seen(n, n - 2, n), "l")
            self.assertEqual([seen(n, 10 ** 50, 3 * 10 ** 50 + at) for at in range(-1, 4)], ["o", "ra", "rb", "rc", "o"])
            last = row_beat(n)
            for x in (0, 1, n // 2, n // 3, n - 2, n - 1):
                self.assertNotEqual(seen(n, x, last - 1), "f")
                self.assertIn(seen(n, x, last - 1), ("g", "p"))
                self.assertEqual([seen(n, x, last), seen(n, x, last + 1), seen(n, x, 10 ** 62)], ["f", "f", "f"])

    def test_sixty_figures_the_ends_are_hit_at_each_level(self):
        for n in BIGS:
            for level, (hands, begun, hit, met) in enumerate(levels(n)):
                if level > 0:
                    self.assertEqual([seen(n, 0, hit - 1), seen(n, 0, hit), seen(n, 0, hit + 1)], ["p", "h", "p"])
                    self.assertEqual(seen(n, hands - 1, begun), "g")
                    if hands > 3:
                        self.assertEqual(seen(n, hands - 1, hit), "p")
                self.assertEqual([seen(n, n - 1, hit), seen(n, n - 1, hit + 1)], ["h", "p"])


class SeenAnywhere(unittest.TestCase):
    def test_small(self):
        self.assertEqual([seen_anywhere(1, 0, 0, t) for t in range(4)], ["m", "g", "f", "f"])
        self.assertEqual([" ".join(seen_anywhere(3, 1, x, t) for x in range(3)) for t in range(7)], [
            "o m o", "m o o", "g o o", "ga r o", "gb o h", "p g p", "f f f"])

    def test_each_hand_at_each_beat_as_it_is_run(self):
        for n in range(1, 32):
            for k in range(n):
                beats = anywhere_beat(n, k) + 2
                rows = row_to(anywhere_machine(), n, k, beats)
                for t in range(beats + 1):
                    self.assertEqual(tuple(seen_anywhere(n, k, x, t) for x in range(n)), rows[t], (n, k, t))

    def test_sixty_figures(self):
        for n in BIGS:
            for k in (0, 1, 10 ** 40, n // 2, n - 1):
                self.assertEqual(seen_anywhere(n, k, k, 0), "m")
                self.assertEqual(seen_anywhere(n, k, 0, k), "m")
                self.assertEqual(seen_anywhere(n, k, k - k // 3, k // 3), "m")
                self.assertEqual(seen_anywhere(n, k, n - 1, k), "o" if n > 1 else "m")
                self.assertEqual(seen_anywhere(n, k, 0, k + 1), "g")
                for x, t in ((0, 5), (7, 7), (n - 1, n - 1), (n // 2, n), (n // 3, 2 * n), (1, row_beat(n) - 1)):
                    self.assertEqual(seen_anywhere(n, k, x, k + 1 + t), seen(n, x, t))
                self.assertNotEqual(seen_anywhere(n, k, k, anywhere_beat(n, k) - 1), "f")
                self.assertEqual(seen_anywhere(n, k, k, anywhere_beat(n, k)), "f")
                if k > 1:
                    self.assertEqual([seen_anywhere(n, k, k - 1, t) for t in (0, 1, 2)], ["o", "m", "o"])
