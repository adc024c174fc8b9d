"""What is seen at any hand and beat of a ring (points 3 b and 26)."""

import functools
import random
import unittest

from firetogether.beats import ring_beat
from firetogether.house import ring_machine
from firetogether.rings import ring_to
from firetogether.seen import seen
from firetogether.seenrings import seen_ring
from firetogether.stretches import levels
from tests.helpers import HOUSE_TEXT, rows_of, stirring_places

# A ring is cut as a row of one hand more is.
RINGS = (10 ** 59, 10 ** 59 + 7, 10 ** 60 - 1, 10 ** 61 - 1, 2 ** 199 - 1, 2 ** 199, 2 ** 199 + 1)
NEWS = {row[:3]: row[3] for row in rows_of(HOUSE_TEXT)}


class SeenRing(unittest.TestCase):
    def test_small(self):
        self.assertEqual([" ".join(seen_ring(3, x, t) for x in range(3)) for t in range(8)], [
            "w o o", "wa r o", "wb o r", "k ra o", "p rb l", "p g g", "f f f", "f f f"])
        self.assertEqual([" ".join(seen_ring(5, x, t) for x in range(5)) for t in range(13)], [
            "w o o o o", "wa r o o o", "wb o r o o", "p ra o r o", "p rb o o r", "k rc o o o", "p o ra o l",
            "p o rb l o", "p o g g o", "p l ga ga r", "h o gb gb o", "p g p p g", "f f f f f"])

    def test_each_hand_at_each_beat_as_it_is_run(self):
        for n in list(range(3, 34)) + [47, 60]:
            beats = ring_beat(n) + 4
            rings = ring_to(ring_machine(), n, 0, beats)
            for t in range(beats + 1):
                self.assertEqual(tuple(seen_ring(n, x, t) for x in range(n)), rings[t], (n, t))

    def test_sixty_figures_go_by_the_houses_rows(self):
        rng = random.Random(111)
        met = set()
        for n in RINGS[1::2]:
            told = functools.lru_cache(None)(lambda x, t: seen_ring(n, x % n, t))
            for x, t in stirring_places(n + 1, rng):
                for place in (x - 1, x, x + 1):
                    left, own, right = [told(place + at, t) for at in (-1, 0, 1)]
                    self.assertEqual(told(place, t + 1), NEWS.get((left, own, right), own), (n, place, t))
                    met.add((left, own, right))
        run = set()
        for n in range(3, 34):
            for ring in ring_to(ring_machine(), n, 0, ring_beat(n)):
                run.update(zip(ring[-1:] + ring[:-1], ring, ring[1:] + ring[:1]))
        self.assertLessEqual(met, run)
        self.assertGreater(len(met), 75)

    def test_sixty_figures_hand_0(self):
        for n in RINGS:
            self.assertEqual([seen_ring(n, 0, t) for t in range(6)], ["w", "wa", "wb", "p", "p", "p"])
            self.assertEqual([seen_ring(n, 0, t) for t in (n - 1, n, n + 1)], ["p", "k", "p"])
            for level, (hands, begun, hit, met) in enumerate(levels(n + 1)):
                self.assertEqual(seen_ring(n, 0, met), "p")
                if level > 0:
                    self.assertEqual([seen_ring(n, 0, t) for t in (hit - 1, hit, hit + 1)], ["p", "h", "p"])

    def test_sixty_figures_the_other_hands(self):
        for n in RINGS:
            for x in (1, 2, 10 ** 40, n // 2, n - 2, n - 1):
                self.assertEqual(seen_ring(n, x, 0), "o")
                self.assertEqual(seen_ring(n, x, x), "r")
                for t in (5, x, 3 * x, n, n + 10 ** 30, 2 * n, ring_beat(n) - 1):
                    self.assertEqual(seen_ring(n, x, t), seen(n + 1, x, t))
            self.assertEqual(seen_ring(n, n - 1, n + 1), "l")

    def test_sixty_figures_all_fire(self):
        for n in RINGS:
            last = ring_beat(n)
            for x in (0, 1, n // 3, n // 2, n - 1):
                self.assertIn(seen_ring(n, x, last - 1), ("g", "p"))
                self.assertEqual([seen_ring(n, x, t) for t in (last, last + 1, 10 ** 62)], ["f", "f", "f"])
