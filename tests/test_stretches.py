"""The stretches of a row, level by level (point 20)."""

import unittest

from firetogether.beats import row_beat
from firetogether.stretches import levels, shows_levels, stretch
from tests.helpers import BIGS, anythings, brief


def ref_levels(n):
    """The levels by the words of the point, the half rounded up by asking which it is."""
    told = []
    many, begun = n, 0
    while many >= 3:
        half, rest = divmod(3 * (many - 1), 2)
        told.append((many, begun, begun + many - 1, begun + half + rest))
        begun = told[-1][3]
        many = many // 2 + 1 if many % 2 == 1 else many // 2
    return tuple(told)


def ref_stretches(n, level):
    """All stretches of a level, from the left."""
    told = [(0, n - 1, 0)]
    for step in range(level):
        cut = []
        for begin, end, side in told:
            m, odd = divmod(end - begin + 1, 2)
            cut.append((begin, begin + m, 1) if odd else (begin, begin + m - 1, 1))
            cut.append((begin + m, end, 0))
        told = cut
    return told


class Levels(unittest.TestCase):
    def test_none(self):
        self.assertEqual(levels(1), ())
        self.assertEqual(levels(2), ())

    def test_small(self):
        self.assertEqual(levels(3), ((3, 0, 2, 3),))
        self.assertEqual(levels(4), ((4, 0, 3, 5),))
        self.assertEqual(levels(5), ((5, 0, 4, 6), (3, 6, 8, 9)))
        self.assertEqual(levels(6), ((6, 0, 5, 8), (3, 8, 10, 11)))
        self.assertEqual(levels(7), ((7, 0, 6, 9), (4, 9, 12, 14)))
        self.assertEqual(levels(8), ((8, 0, 7, 11), (4, 11, 14, 16)))
        self.assertEqual(levels(9), ((9, 0, 8, 12), (5, 12, 16, 18), (3, 18, 20, 21)))
        self.assertEqual(levels(10), ((10, 0, 9, 14), (5, 14, 18, 20), (3, 20, 22, 23)))

    def test_powers_of_two_and_beside_them(self):
        for k in range(2, 203):
            self.assertEqual(len(levels(2 ** k - 1)), k - 1)
            self.assertEqual(len(levels(2 ** k)), k - 1)
            self.assertEqual(len(levels(2 ** k + 1)), k)
            self.assertEqual(len(levels(2 ** k + 2)), k)

    def test_as_the_document_tells(self):
        for n in tuple(range(1, 200)) + BIGS:
            self.assertEqual(levels(n), ref_levels(n))

    def test_all_fire_behind_the_last_met(self):
        for n in tuple(range(3, 200)) + BIGS:
            self.assertEqual(levels(n)[-1][3] + 1, row_beat(n))

    def test_tuples(self):
        self.assertIsInstance(levels(9), tuple)
        self.assertTrue(all(isinstance(level, tuple) for level in levels(9)))
        self.assertEqual(levels(BIGS[0]), levels(BIGS[0]))


class Stretches(unittest.TestCase):
    def test_level_0(self):
        for n in (1, 2, 3, 10) + BIGS:
            self.assertEqual(stretch(n, 0, 0), (0, n - 1, 0))

    def test_odd_and_even(self):
        self.assertEqual([stretch(5, 1, i) for i in range(2)], [(0, 2, 1), (2, 4, 0)])
        self.assertEqual([stretch(6, 1, i) for i in range(2)], [(0, 2, 1), (3, 5, 0)])
        self.assertEqual([stretch(10, 2, i) for i in range(4)], [(0, 2, 1), (2, 4, 0), (5, 7, 1), (7, 9, 0)])

    def test_the_last_level(self):
        self.assertEqual([stretch(3, 1, i) for i in range(2)], [(0, 1, 1), (1, 2, 0)])
        self.assertEqual([stretch(4, 1, i) for i in range(2)], [(0, 1, 1), (2, 3, 0)])
        self.assertEqual([stretch(5, 2, i) for i in range(4)], [(0, 1, 1), (1, 2, 0), (2, 3, 1), (3, 4, 0)])
        self.assertEqual([stretch(6, 2, i) for i in range(4)], [(0, 1, 1), (1, 2, 0), (3, 4, 1), (4, 5, 0)])
        for n in range(1, 80):
            last = len(levels(n))
            for i in range(2 ** last):
                begin, end, side = stretch(n, last, i)
                self.assertEqual(end - begin + 1, 1 if n == 1 else 2)

    def test_each_level_and_each_i(self):
        for n in range(1, 80):
            for level in range(len(levels(n)) + 1):
                told = [stretch(n, level, i) for i in range(2 ** level)]
                self.assertEqual(told, ref_stretches(n, level))
                hands = {end - begin + 1 for begin, end, side in told}
                self.assertEqual(hands, {levels(n)[level][0]} if level < len(levels(n)) else {min(n, 2)})

    def test_sixty_figures(self):
        for n in BIGS:
            for level, (hands, begun, hit, met) in enumerate(levels(n)):
                many = 2 ** level
                self.assertEqual(stretch(n, level, 0), (0, hands - 1, 1 if level else 0))
                self.assertEqual(stretch(n, level, many - 1), (n - hands, n - 1, 0))
                begin, end, side = stretch(n, level, many // 3)
                self.assertEqual(end - begin + 1, hands)
                left, right = stretch(n, level + 1, 2 * (many // 3)), stretch(n, level + 1, 2 * (many // 3) + 1)
                self.assertEqual((left[0], left[2], right[1], right[2]), (begin, 1, end, 0))
                self.assertEqual(right[0] - left[1], 0 if hands % 2 == 1 else 1)


class Shown(unittest.TestCase):
    def good(self, n, thing):
        self.assertIs(shows_levels(n, thing), True, brief(thing))

    def bad(self, n, thing):
        self.assertIs(shows_levels(n, thing), False, brief(thing))

    def test_the_told_one(self):
        for n in tuple(range(1, 40)) + BIGS:
            self.good(n, levels(n))
            self.good(n, ref_levels(n))

    def test_each_part_otherwise(self):
        for n in (3, 4, 9, 10, 33, BIGS[1]):
            told = levels(n)
            for at in range(len(told)):
                for place in range(4):
                    for other in (told[at][place] + 1, told[at][place] - 1, -told[at][place] - 1, None, "3", [3], (3,)):
                        level = told[at][:place] + (other,) + told[at][place + 1:]
                        self.bad(n, told[:at] + (level,) + told[at + 1:])

    def test_levels_left_out_or_too_many(self):
        for n in (3, 9, 33):
            told = levels(n)
            self.bad(n, told[1:])
            self.bad(n, told[:-1])
            self.bad(n, told + told[-1:])
            self.bad(n, told + ((2, told[-1][3], told[-1][3] + 1, told[-1][3] + 2),))
            self.bad(n, told + ((),))
        self.bad(9, levels(9)[::-1])
        self.bad(9, levels(10))
        self.bad(2, ((2, 0, 1, 2),))
        self.bad(3, ())
        self.good(1, ())
        self.good(2, ())

    def test_other_lengths_of_a_level(self):
        self.bad(3, ((3, 0, 2),))
        self.bad(3, ((3, 0, 2, 3, 4),))
        self.bad(3, (3, 0, 2, 3))
        self.bad(3, (((3, 0, 2, 3),),))

    def test_truths_are_no_numbers(self):
        self.bad(3, ((3, False, 2, 3),))
        self.bad(9, ((9, False, 8, 12),) + levels(9)[1:])
        self.bad(3, ((3, 0, True, 3),))
        self.bad(3, (True,))

    def test_lists(self):
        self.bad(9, list(levels(9)))
        self.bad(9, tuple(list(level) for level in levels(9)))
        self.bad(9, levels(9)[:2] + (list(levels(9)[2]),))
        self.bad(1, [])
        self.bad(1, {})
        self.bad(1, "")
        self.bad(2, set())

    def test_of_anything(self):
        for n in (1, 3, 9, BIGS[0]):
            for thing in anythings():
                if thing != () or n != 1:
                    self.bad(n, thing)
        for thing in anythings():
            self.bad(3, (thing,))
            for at in range(4):
                level = (3, 0, 2, 3)[:at] + (thing,) + (3, 0, 2, 3)[at + 1:]
                if at != 1 or not isinstance(thing, int) or isinstance(thing, bool) or thing != 0:
                    self.bad(3, (level,))
