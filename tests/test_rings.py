"""Rings that are run (points 7 and 8)."""

import unittest

from firetogether.errors import NoMachine
from firetogether.rings import ring_first, ring_to
from tests.helpers import (
    BARE, BLINKING, LEANING, anythings, chance_machines, counting, house, house_ring_beat, ref_first, ref_run,
)

PUT_TOGETHER = [
    ("mirrored", LEANING), ("later", 2, counting(3)), ("slowed", 3, counting(3)), ("both", counting(2), counting(4)),
    ("either", counting(2), counting(4)), ("slowed", 2, ("later", 1, ("mirrored", house("w")))),
]


class RingTo(unittest.TestCase):
    def test_beat_0_alone(self):
        self.assertEqual(ring_to(house("w"), 3, 1, 0), [("o", "w", "o")])
        self.assertEqual(ring_to(("slowed", 2, house("w")), 3, 2, 0), [(("o", 0), ("o", 0), ("w", 0))])

    def test_the_last_hand_is_the_left_one_of_hand_0(self):
        table = ("table", "o", "g", "f", (("g", "o", "o", "a"),))
        self.assertEqual(ring_to(table, 4, 3, 1)[1], ("a", "o", "o", "g"))
        self.assertEqual(ring_to(table, 4, 0, 1)[1], ("g", "a", "o", "o"))
        self.assertEqual(ring_to(("mirrored", table), 4, 0, 1)[1], ("g", "o", "o", "a"))
        self.assertEqual(ring_to(("mirrored", table), 4, 3, 1)[1], ("o", "o", "a", "g"))

    def test_nobody_sees_an_end(self):
        table = ("table", "o", "g", "f", (("", "g", "", "f"), ("", "g", "o", "f"), ("", "o", "g", "f"),
                                          ("g", "o", "", "f"), ("o", "g", "", "f")))
        for k in range(3):
            rows = ring_to(table, 3, k, 3)
            self.assertEqual(rows, [rows[0]] * 4)

    def test_three_hands(self):
        self.assertEqual(ring_to(house("w"), 3, 0, 6), ref_run(house("w"), 3, 0, 6, True))
        self.assertEqual(ring_to(house("w"), 3, 0, 6)[6], ("f", "f", "f"))

    def test_started_anywhere_it_goes_the_same_way_round(self):
        for machine in (house("w"), LEANING, ("slowed", 2, ("mirrored", LEANING))):
            at_0 = ring_to(machine, 7, 0, 12)
            for k in range(7):
                turned = [row[7 - k:] + row[:7 - k] for row in at_0]
                self.assertEqual(ring_to(machine, 7, k, 12), turned)

    def test_as_the_document_tells(self):
        for machine in chance_machines(40, 4, 31) + PUT_TOGETHER + [house("w"), counting(5)]:
            for n in (3, 4, 7):
                for k in (0, 1, n - 1):
                    self.assertEqual(ring_to(machine, n, k, 9), ref_run(machine, n, k, 9, True))

    def test_what_was_told_is_changed_and_asked_for_again(self):
        rows = ring_to(house("w"), 5, 0, 4)
        self.assertIsInstance(rows, list)
        self.assertTrue(all(isinstance(row, tuple) for row in rows))
        kept = list(rows)
        rows.clear()
        self.assertEqual(ring_to(house("w"), 5, 0, 4), kept)


class RingFirst(unittest.TestCase):
    def test_all(self):
        for n in range(3, 21):
            beat = house_ring_beat(n)
            for k in (0, n // 2, n - 1):
                self.assertEqual(ring_first(house("w"), n, k, beat), ("all", beat))
                self.assertEqual(ring_first(house("w"), n, k, beat - 1), ("late", beat - 1))

    def test_some(self):
        self.assertEqual(ring_first(counting(3), 7, 2, 3), ("all", 3))
        self.assertEqual(ring_first(counting(3), 8, 2, 3), ("some", 3))
        self.assertEqual(ring_first(counting(3), 8, 2, 2), ("late", 2))
        self.assertEqual(ring_first(counting(3), 8, 7, 90), ("some", 3))

    def test_never(self):
        self.assertEqual(ring_first(BARE, 3, 0, 1), ("never", 1))
        self.assertEqual(ring_first(BARE, 3, 0, 0), ("late", 0))
        self.assertEqual(ring_first(BLINKING, 5, 4, 2), ("never", 2))
        self.assertEqual(ring_first(BLINKING, 5, 4, 1), ("late", 1))

    def test_late(self):
        self.assertEqual(ring_first(house("w"), 9, 0, 0), ("late", 0))
        self.assertEqual(ring_first(house("w"), 9, 3, 11), ("late", 11))

    def test_of_machines_put_together(self):
        self.assertEqual(ring_first(("later", 3, house("w")), 5, 1, 99), ("all", house_ring_beat(5) + 3))
        self.assertEqual(ring_first(("slowed", 3, house("w")), 5, 1, 99), ("all", house_ring_beat(5) * 3))
        self.assertEqual(ring_first(("mirrored", house("w")), 5, 1, 99), ("all", house_ring_beat(5)))
        self.assertEqual(ring_first(("both", counting(3), counting(5)), 6, 1, 99), ("all", 5))
        self.assertEqual(ring_first(("either", counting(3), counting(5)), 6, 1, 99), ("all", 3))

    def test_as_the_document_tells(self):
        words = set()
        for machine in chance_machines(80, 4, 32) + PUT_TOGETHER:
            for n in (3, 4, 6):
                for late in (0, 1, 3, 14):
                    told = ring_first(machine, n, n - 2, late)
                    words.add(told[0])
                    self.assertEqual(told, ref_first(machine, n, n - 2, late, True))
        self.assertEqual(words, {"all", "some", "never", "late"})


class Refused(unittest.TestCase):
    def test_no_machine_ahead_of_all_else(self):
        for thing in anythings() + ["a", ("later", 61, BARE)]:
            for n, k, beats in ((3, 0, 4), (None, "a", []), (0, 0, 0), (-1, -1, -1), (10 ** 30, True, ())):
                with self.assertRaises(NoMachine):
                    ring_to(thing, n, k, beats)
                with self.assertRaises(NoMachine):
                    ring_first(thing, n, k, beats)
