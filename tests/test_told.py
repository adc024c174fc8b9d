"""Told beats (points 3 f and 31)."""

import random
import unittest

from firetogether.beats import anywhere_beat, ring_beat, row_beat
from firetogether.errors import NoMachine
from firetogether.house import anywhere_machine, ring_machine, row_machine
from firetogether.rings import ring_first
from firetogether.rows import row_first
from firetogether.told import told_ring, told_row
from tests.helpers import BARE, BIGS, LEANING, anythings, brief, counting, house, house_beat, house_ring_beat, renamed

ROW = house("g")
ANYWHERE = house("m")
RING = house("w")
NONE_OF_THEM = [
    BARE, LEANING, counting(3), ROW[:4] + (ROW[4][1:],), renamed(ROW, {"p": "pp"}), ("table", "o", "r", "f", ROW[4]),
]


def wrapped(parts, rng):
    """A machine put together of some of these."""
    word = rng.choice(["mirrored", "later", "slowed", "both", "either"])
    if word == "mirrored":
        return (word, rng.choice(parts))
    if word in ("later", "slowed"):
        return (word, rng.choice([1, 2, 3]), rng.choice(parts))
    return (word, rng.choice(parts), rng.choice(parts))


def put_together(tables, many, seed):
    """Machines of two, three and four deep made by chance of these tables."""
    rng = random.Random(seed)
    layers = [tables]
    for deep in range(3):
        layers.append(layers[-1] + [wrapped(layers[-1], rng) for turn in range(many)])
    return layers[-1]


def ref_row(machine, n, k):
    """By the words of the point."""
    word = machine[0]
    if word == "table":
        if machine == ROW:
            return house_beat(n) if k == 0 else None
        return k + 1 + house_beat(n) if machine == ANYWHERE else None
    if word == "mirrored":
        return ref_row(machine[1], n, n - 1 - k)
    if word in ("later", "slowed"):
        one = ref_row(machine[2], n, k)
        return None if one is None else one + machine[1] if word == "later" else one * machine[1]
    two = [ref_row(machine[1], n, k), ref_row(machine[2], n, k)]
    return None if None in two else sorted(two)[word == "both"]


def ref_ring(machine, n):
    word = machine[0]
    if word == "table":
        return house_ring_beat(n) if machine == RING else None
    if word == "mirrored":
        return ref_ring(machine[1], n)
    if word in ("later", "slowed"):
        one = ref_ring(machine[2], n)
        return None if one is None else one + machine[1] if word == "later" else one * machine[1]
    two = [ref_ring(machine[1], n), ref_ring(machine[2], n)]
    return None if None in two else sorted(two)[word == "both"]


class ToldRow(unittest.TestCase):
    def test_the_houses_tables(self):
        for n in list(range(1, 30)) + list(BIGS):
            self.assertEqual(told_row(row_machine(), n, 0), row_beat(n))
            for k in {0, n // 2, n - 1}:
                self.assertEqual(told_row(anywhere_machine(), n, k), anywhere_beat(n, k))
                self.assertIsNone(told_row(ring_machine(), n, k))

    def test_small(self):
        self.assertEqual(told_row(ROW, 1, 0), 1)
        self.assertEqual(told_row(ROW, 9, 0), 22)
        self.assertEqual(told_row(ANYWHERE, 9, 4), 27)
        self.assertEqual(told_row(("mirrored", ROW), 9, 8), 22)
        self.assertEqual(told_row(("mirrored", ANYWHERE), 9, 8), 23)
        self.assertEqual(told_row(("later", 0, ROW), 9, 0), 22)
        self.assertEqual(told_row(("later", 60, ROW), 9, 0), 82)
        self.assertEqual(told_row(("slowed", 1, ROW), 9, 0), 22)
        self.assertEqual(told_row(("slowed", 60, ROW), 9, 0), 1320)
        self.assertEqual(told_row(("both", ROW, ANYWHERE), 9, 0), 23)
        self.assertEqual(told_row(("either", ANYWHERE, ROW), 9, 0), 22)
        self.assertEqual(told_row(("slowed", 2, ("later", 3, ROW)), 9, 0), 50)
        self.assertEqual(told_row(("later", 3, ("slowed", 2, ROW)), 9, 0), 47)

    def test_not_told(self):
        for n in (2, 9, BIGS[1]):
            self.assertIsNone(told_row(ROW, n, 1))
            self.assertIsNone(told_row(ROW, n, n - 1))
            self.assertIsNone(told_row(("mirrored", ROW), n, 0))
            self.assertIsNone(told_row(("later", 2, ROW), n, 1))
            self.assertIsNone(told_row(("slowed", 2, ROW), n, 1))
            for other in NONE_OF_THEM + [RING, ("mirrored", ROW)]:
                for word in ("both", "either"):
                    self.assertIsNone(told_row((word, ROW, other), n, 0))
                    self.assertIsNone(told_row((word, other, ROW), n, 0))
        for table in NONE_OF_THEM:
            self.assertIsNone(told_row(table, 5, 0))

    def test_within_one_another(self):
        for machine in put_together([ROW, ANYWHERE, RING, BARE, ROW], 60, 311):
            for n in (1, 2, 7, 8, 10 ** 59 + 7):
                for k in {0, n // 2, n - 1}:
                    self.assertEqual(told_row(machine, n, k), ref_row(machine, n, k))

    def test_just_then_all_fire(self):
        told = 0
        for machine in put_together([ROW, ANYWHERE], 40, 312):
            for n in (1, 2, 3, 6):
                for k in {0, n // 2, n - 1}:
                    beat = told_row(machine, n, k)
                    if beat is not None and beat <= 150:
                        told += 1
                        self.assertEqual(row_first(machine, n, k, beat), ("all", beat))
        self.assertGreater(told, 300)

    def test_no_machine_ahead_of_all_else(self):
        for thing in anythings():
            for n, k in ((5, 0), (1, 0), (10 ** 59, 3), (None, None)):
                with self.assertRaises(NoMachine, msg=brief(thing)):
                    told_row(thing, n, k)


class ToldRing(unittest.TestCase):
    def test_the_houses_tables(self):
        for n in list(range(3, 30)) + list(BIGS):
            self.assertEqual(told_ring(ring_machine(), n), ring_beat(n))
            self.assertIsNone(told_ring(row_machine(), n))
            self.assertIsNone(told_ring(anywhere_machine(), n))

    def test_small(self):
        self.assertEqual(told_ring(RING, 3), 6)
        self.assertEqual(told_ring(RING, 8), 22)
        self.assertEqual(told_ring(("mirrored", RING), 8), 22)
        self.assertEqual(told_ring(("later", 60, RING), 8), 82)
        self.assertEqual(told_ring(("slowed", 60, RING), 8), 1320)
        self.assertEqual(told_ring(("both", RING, ("later", 1, RING)), 8), 23)
        self.assertEqual(told_ring(("either", ("slowed", 2, RING), RING), 8), 22)

    def test_not_told(self):
        for other in NONE_OF_THEM + [ROW, ANYWHERE]:
            self.assertIsNone(told_ring(other, 5))
            for machine in (("mirrored", other), ("later", 1, other), ("slowed", 2, other), ("both", RING, other),
                            ("both", other, RING), ("either", RING, other), ("either", other, RING)):
                self.assertIsNone(told_ring(machine, 5))

    def test_within_one_another(self):
        for machine in put_together([RING, ROW, RING, BARE], 60, 313):
            for n in (3, 4, 7, 8, 10 ** 59 + 7):
                self.assertEqual(told_ring(machine, n), ref_ring(machine, n))

    def test_just_then_all_fire_started_anywhere(self):
        told = 0
        for machine in put_together([RING], 40, 314):
            for n in (3, 4, 7):
                beat = told_ring(machine, n)
                if beat <= 150:
                    told += 1
                    for k in (0, 1, n - 1):
                        self.assertEqual(ring_first(machine, n, k, beat), ("all", beat))
        self.assertGreater(told, 200)

    def test_no_machine_ahead_of_all_else(self):
        for thing in anythings():
            for n in (3, 10 ** 59, None):
                with self.assertRaises(NoMachine, msg=brief(thing)):
                    told_ring(thing, n)
