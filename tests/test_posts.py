"""The hands that are posts (points 3 g and 23)."""

import unittest

from firetogether.beats import row_beat
from firetogether.posts import post_beat, posts
from firetogether.stretches import levels, stretch
from tests.helpers import BIGS


class PostBeat(unittest.TestCase):
    def test_small(self):
        self.assertEqual([post_beat(1, x) for x in range(1)], [0])
        self.assertEqual([post_beat(2, x) for x in range(2)], [0, 1])
        self.assertEqual([post_beat(3, x) for x in range(3)], [0, 3, 2])
        self.assertEqual([post_beat(4, x) for x in range(4)], [0, 5, 5, 3])
        self.assertEqual([post_beat(5, x) for x in range(5)], [0, 9, 6, 9, 4])
        self.assertEqual([post_beat(6, x) for x in range(6)], [0, 11, 8, 8, 11, 5])
        self.assertEqual([post_beat(7, x) for x in range(7)], [0, 14, 14, 9, 14, 14, 6])
        self.assertEqual([post_beat(9, x) for x in range(9)], [0, 21, 18, 21, 12, 21, 18, 21, 8])

    def test_the_ends(self):
        for n in tuple(range(2, 50)) + BIGS:
            self.assertEqual(post_beat(n, 0), 0)
            self.assertEqual(post_beat(n, n - 1), n - 1)

    def test_the_midst_of_each_stretch(self):
        for n in range(3, 70):
            told = {0: 0, n - 1: n - 1}
            for level, (hands, begun, hit, met) in enumerate(levels(n)):
                for i in range(2 ** level):
                    begin, end, side = stretch(n, level, i)
                    m, odd = divmod(hands, 2)
                    for x in (begin + m,) if odd else (begin + m - 1, begin + m):
                        self.assertNotIn(x, told)
                        told[x] = met
            self.assertEqual([post_beat(n, x) for x in range(n)], [told[x] for x in range(n)])

    def test_sixty_figures(self):
        for n in BIGS:
            for level, (hands, begun, hit, met) in enumerate(levels(n)):
                for i in {0, 2 ** level // 3, 2 ** level - 1}:
                    begin, end, side = stretch(n, level, i)
                    self.assertEqual(post_beat(n, begin + hands // 2), met)
                    self.assertEqual(post_beat(n, begin + (hands - 1) // 2), met)
            self.assertEqual(post_beat(n, 1), levels(n)[-1][3])


class Posts(unittest.TestCase):
    def test_at_beat_0(self):
        for n in tuple(range(1, 50)) + BIGS:
            self.assertEqual(posts(n, 0), 1)
            self.assertEqual(posts(n, -1), 0)

    def test_small(self):
        self.assertEqual([posts(1, t) for t in range(3)], [1, 1, 1])
        self.assertEqual([posts(2, t) for t in range(3)], [1, 2, 2])
        self.assertEqual([posts(3, t) for t in range(6)], [1, 1, 2, 3, 3, 3])
        self.assertEqual([posts(4, t) for t in range(7)], [1, 1, 1, 2, 2, 4, 4])
        self.assertEqual([posts(9, t) for t in (7, 8, 11, 12, 17, 18, 20, 21, 22)], [1, 2, 2, 3, 3, 5, 5, 9, 9])

    def test_as_counted(self):
        for n in range(1, 70):
            beats = [post_beat(n, x) for x in range(n)]
            for t in range(row_beat(n) + 3):
                self.assertEqual(posts(n, t), len([beat for beat in beats if beat <= t]), (n, t))

    def test_all_from_the_last_met_on(self):
        for n in tuple(range(3, 70)) + BIGS:
            last = levels(n)[-1][3]
            self.assertLess(posts(n, last - 1), n)
            for t in (last, last + 1, 2 * last, 10 ** 62):
                self.assertEqual(posts(n, t), n)

    def test_sixty_figures(self):
        for n in BIGS:
            self.assertEqual(posts(n, n - 2), 1)
            self.assertEqual(posts(n, n - 1), 2)
            first, second = levels(n)[:2]
            self.assertEqual(posts(n, first[3] - 1), 2)
            middle = 1 if first[0] % 2 == 1 else 2
            self.assertEqual(posts(n, first[3]), 2 + middle)
            self.assertEqual(posts(n, second[3] - 1), 2 + middle)
            self.assertEqual(posts(n, second[3]), 2 + middle + 2 * (1 if second[0] % 2 == 1 else 2))
            # Ahead of a level's met each stretch has its two ends, shared with a neighbour or not.
            for level, (hands, begun, hit, met) in enumerate(levels(n)[1:12], start=1):
                ends = {x for i in range(2 ** level) for x in stretch(n, level, i)[:2]}
                self.assertEqual(posts(n, met - 1), len(ends))
