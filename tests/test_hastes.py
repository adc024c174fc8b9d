"""Machines that fire ahead of the bar (points 3 a and 11)."""

import unittest

from firetogether.errors import NoMachine
from firetogether.hastes import haste, ring_haste, shows_haste
from firetogether.nearness import bar, ring_bar
from firetogether.rings import ring_first
from firetogether.rows import row_first
from tests.helpers import BARE, LEANING, anythings, chance_machines, counting, house


class Haste(unittest.TestCase):
    def test_started_at_the_left_end(self):
        self.assertEqual(haste(counting(5), 4, 0), (5, 7, 0))
        self.assertEqual(haste(counting(5), 5, 0), (5, 7, 0))
        self.assertEqual(haste(counting(5), 6, 0), (5, 7, 0))
        self.assertEqual(haste(counting(1), 2, 0), (1, 3, 0))

    def test_started_at_the_right_end(self):
        self.assertEqual(haste(counting(5), 4, 3), (5, 7, 6))
        self.assertEqual(haste(counting(5), 6, 5), (5, 7, 6))
        self.assertEqual(haste(counting(1), 2, 1), (1, 3, 2))

    def test_started_in_the_midst(self):
        self.assertEqual(haste(counting(5), 5, 1), (5, 8, 1))
        self.assertEqual(haste(counting(5), 5, 2), (5, 9, 2))
        self.assertEqual(haste(counting(5), 5, 3), (5, 8, 6))
        self.assertEqual(haste(counting(5), 11, 5), (5, 12, 5))
        self.assertEqual(haste(counting(5), 7, 2), (5, 9, 2))
        self.assertEqual(haste(counting(5), 7, 4), (5, 9, 6))

    def test_at_the_bar_and_one_ahead_of_it(self):
        self.assertEqual(bar(4, 0), 6)
        self.assertIsNone(haste(counting(6), 4, 0))
        self.assertEqual(haste(counting(5), 4, 0)[0], 5)
        self.assertEqual(bar(5, 2), 6)
        self.assertIsNone(haste(counting(6), 5, 2))
        self.assertEqual(haste(counting(5), 5, 2)[0], 5)

    def test_at_least_one_hand_is_put_on(self):
        # The leftmost fires all of a row of two at the first beat there is: one hand more is enough.
        table = ("table", "o", "g", "f", (("", "g", "o", "f"), ("g", "o", "", "f"), ("g", "o", "o", "f")))
        self.assertEqual(haste(table, 2, 0), (1, 3, 0))

    def test_none_where_not_all_fire_so_soon(self):
        self.assertIsNone(haste(BARE, 5, 0))
        self.assertIsNone(haste(counting(3), 5, 0))
        self.assertIsNone(haste(LEANING, 3, 0))
        self.assertIsNone(haste(counting(9), 4, 0))
        for n in range(1, 21):
            self.assertIsNone(haste(house("g"), n, 0))

    def test_none_of_one_hand(self):
        for machine in (counting(1), counting(2), BARE, house("g")):
            self.assertIsNone(haste(machine, 1, 0))

    def test_of_machines_put_together(self):
        self.assertEqual(haste(("later", 1, counting(4)), 4, 0), (5, 7, 0))
        self.assertEqual(haste(("slowed", 2, counting(4)), 6, 1), (8, 11, 1))
        self.assertIsNone(haste(("slowed", 2, counting(4)), 5, 0))
        self.assertEqual(haste(("slowed", 2, counting(2)), 4, 1), (4, 7, 1))
        self.assertEqual(haste(("mirrored", counting(5)), 5, 3), (5, 8, 6))

    def test_the_longer_row_is_wrong(self):
        found = 0
        machines = [counting(beats) for beats in range(1, 9)] + chance_machines(150, 3, 51)
        for machine in machines:
            for n in range(1, 8):
                for k in range(n):
                    told = haste(machine, n, k)
                    if told is None:
                        continue
                    found += 1
                    beat, many, start = told
                    self.assertLess(beat, bar(n, k))
                    self.assertGreater(many, n)
                    self.assertEqual(row_first(machine, n, k, beat), ("all", beat))
                    self.assertEqual(row_first(machine, many, start, beat)[0], "some")
                    self.assertIs(shows_haste(machine, n, k, told), True)
        self.assertGreater(found, 50)


class RingHaste(unittest.TestCase):
    def test_told(self):
        for n in range(6, 12):
            self.assertEqual(ring_haste(counting(5), n), (5, 12))
        self.assertEqual(ring_haste(counting(1), 3), (1, 4))
        self.assertEqual(ring_haste(("mirrored", ("later", 2, counting(3))), 7), (5, 12))

    def test_at_the_bar_and_one_ahead_of_it(self):
        self.assertIsNone(ring_haste(counting(5), 5))
        self.assertEqual(ring_haste(counting(4), 5), (4, 10))

    def test_none_where_not_all_fire_so_soon(self):
        self.assertIsNone(ring_haste(counting(5), 12))
        self.assertIsNone(ring_haste(BARE, 4))
        self.assertIsNone(ring_haste(LEANING, 4))
        for n in range(3, 21):
            self.assertIsNone(ring_haste(house("w"), n))

    def test_the_longer_ring_is_wrong(self):
        found = 0
        for machine in [counting(beats) for beats in range(1, 9)] + chance_machines(100, 3, 52):
            for n in range(3, 12):
                told = ring_haste(machine, n)
                if told is None:
                    continue
                found += 1
                beat, many = told
                self.assertLess(beat, ring_bar(n))
                self.assertGreater(many, n)
                self.assertEqual(ring_first(machine, n, 0, beat), ("all", beat))
                self.assertEqual(ring_first(machine, many, 0, beat)[0], "some")
        self.assertGreater(found, 20)


class ShowsHaste(unittest.TestCase):
    def good(self, machine, n, k, thing):
        self.assertIs(shows_haste(machine, n, k, thing), True, thing)

    def bad(self, machine, n, k, thing):
        self.assertIs(shows_haste(machine, n, k, thing), False)

    def test_the_told_one(self):
        self.good(counting(5), 4, 0, (5, 7, 0))
        self.good(counting(5), 4, 3, (5, 7, 6))
        self.good(counting(5), 5, 2, (5, 9, 2))

    def test_another_one_that_shows_it_too(self):
        self.good(counting(5), 4, 0, (5, 10, 0))
        self.good(counting(5), 4, 0, (5, 10, 9))
        self.good(counting(5), 4, 0, (5, 8, 1))

    def test_another_beat(self):
        for beat in (-1, 0, 1, 4, 6, 7, 10 ** 60):
            self.bad(counting(5), 4, 0, (beat, 7, 0))

    def test_another_length(self):
        for many in (-7, 0, 3, 4, 5, 6, 11, 12, 10 ** 60):
            self.bad(counting(5), 4, 0, (5, many, 0))

    def test_the_length_at_its_bounds(self):
        self.good(counting(5), 4, 0, (5, 4 + 5 + 1, 0))
        self.bad(counting(5), 4, 0, (5, 4 + 5 + 2, 0))
        # Started elsewhere a row of just as many hands may show it: n itself is not ruled out.
        self.good(counting(3), 6, 3, (3, 6, 0))
        self.bad(counting(3), 6, 3, (3, 5, 0))

    def test_the_length_is_no_less_than_n_though_some_fire(self):
        # The row of three started in its midst fires ahead of its bar, and the shorter one of two is wrong.
        table = ("table", "o", "g", "f", (("", "o", "g", "f"), ("g", "o", "", "f"), ("o", "g", "o", "f")))
        self.assertEqual(row_first(table, 3, 1, 1), ("all", 1))
        self.assertEqual(row_first(table, 2, 0, 1), ("some", 1))
        self.bad(table, 3, 1, (1, 2, 0))
        self.good(table, 3, 1, (1, 4, 1))

    def test_another_start(self):
        for start in (-1, 3, 7, 8, 10 ** 60):
            self.bad(counting(5), 4, 0, (5, 7, start))
        self.good(counting(5), 4, 0, (5, 7, 6))

    def test_at_the_bar(self):
        self.bad(counting(6), 4, 0, (6, 8, 0))
        self.good(counting(5), 4, 0, (5, 8, 0))

    def test_truths_are_no_numbers(self):
        self.good(counting(1), 2, 0, (1, 3, 0))
        self.bad(counting(1), 2, 0, (True, 3, 0))
        self.bad(counting(1), 2, 0, (1, 3, False))
        self.good(counting(1), 2, 0, (1, 4, 1))
        self.bad(counting(1), 2, 0, (1, 4, True))
        self.bad(counting(1), 2, 0, (1, True, 0))

    def test_other_forms(self):
        for thing in ([5, 7, 0], (5, 7), (5, 7, 0, 0), (5,), (), ("5", "7", "0"), (5, 7, None), (None, 7, 0), (5, None, 0),
                      ((5,), 7, 0), (5, [7], 0), (5, 7, {}), (b"5", 7, 0), {5: 7}, "570", ((5, 7, 0),)):
            self.bad(counting(5), 4, 0, thing)

    def test_of_anything(self):
        for thing in anythings():
            self.bad(counting(5), 4, 0, thing)
            self.bad(counting(5), 4, 0, (thing, 7, 0))
            self.bad(counting(5), 4, 0, (5, thing, 0))

    def test_of_one_hand(self):
        for thing in ((1, 2, 0), (0, 1, 0), (1, 3, 0)):
            self.bad(counting(1), 1, 0, thing)

    def test_where_no_haste_is(self):
        self.bad(BARE, 4, 0, (5, 7, 0))
        self.bad(house("g"), 4, 0, (5, 7, 0))
        self.bad(counting(3), 5, 0, (3, 7, 0))

    def test_where_the_longer_row_never_fires_by_then(self):
        # Started at its right end a row of three hands never stirs.
        table = ("table", "o", "g", "f", (("", "g", "o", "f"), ("g", "o", "", "f")))
        self.good(table, 2, 0, (1, 3, 0))
        self.bad(table, 2, 0, (1, 3, 2))


class Refused(unittest.TestCase):
    def test_no_machine_ahead_of_all_else(self):
        for thing in anythings() + ["a", ("later", 61, BARE)]:
            for n, k in ((3, 0), (1, 0), (None, "a"), (-1, -1), (10 ** 30, True)):
                with self.assertRaises(NoMachine):
                    haste(thing, n, k)
                with self.assertRaises(NoMachine):
                    ring_haste(thing, n)
                for shown in ((5, 7, 0), None, [], "a"):
                    with self.assertRaises(NoMachine):
                        shows_haste(thing, n, k, shown)
