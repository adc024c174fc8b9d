"""Rows that are run (points 7, 8 and 9)."""

import unittest

from firetogether.errors import NoMachine
from firetogether.rows import open_row, row_first, row_to
from tests.helpers import (
    BARE, BLINKING, LEANING, anythings, chance_machines, counting, house, house_beat, ref_first, ref_quiet, ref_run,
    ref_start,
)

PUT_TOGETHER = [
    ("mirrored", LEANING), ("later", 2, counting(3)), ("slowed", 3, counting(3)), ("both", counting(2), counting(4)),
    ("either", counting(2), counting(4)), ("slowed", 2, ("later", 1, ("mirrored", house("m")))),
]


class RowTo(unittest.TestCase):
    def test_beat_0_alone(self):
        self.assertEqual(row_to(house("g"), 1, 0, 0), [("g",)])
        self.assertEqual(row_to(house("g"), 4, 0, 0), [("g", "o", "o", "o")])
        self.assertEqual(row_to(house("g"), 4, 3, 0), [("o", "o", "o", "g")])
        self.assertEqual(row_to(("later", 1, house("g")), 3, 1, 0), [(("o", 0), ("g", 0), ("o", 0))])

    def test_one_hand(self):
        self.assertEqual(row_to(house("g"), 1, 0, 3), [("g",), ("f",), ("f",), ("f",)])
        self.assertEqual(row_to(BARE, 1, 0, 2), [("start",)] * 3)

    def test_all_hands_step_at_once(self):
        self.assertEqual(row_to(house("g"), 3, 0, 4), [
            ("g", "o", "o"), ("ga", "r", "o"), ("gb", "o", "h"), ("p", "g", "p"), ("f", "f", "f")])

    def test_beyond_the_ends_there_is_nobody(self):
        self.assertEqual(row_to(LEANING, 3, 1, 1), [("o", "g", "o"), ("o", "g", "f")])
        self.assertEqual(row_to(LEANING, 3, 2, 1), [("o", "o", "g"), ("o", "o", "g")])
        self.assertEqual(row_to(("mirrored", LEANING), 3, 1, 1), [("o", "g", "o"), ("f", "g", "o")])
        self.assertEqual(row_to(("mirrored", LEANING), 3, 0, 1), [("g", "o", "o"), ("g", "o", "o")])

    def test_as_the_document_tells(self):
        for machine in chance_machines(40, 4, 21) + PUT_TOGETHER + [house("g"), house("m"), counting(5)]:
            for n in (1, 2, 3, 6):
                for k in {0, n // 2, n - 1}:
                    self.assertEqual(row_to(machine, n, k, 9), ref_run(machine, n, k, 9, False))

    def test_sixty_hands(self):
        rows = row_to(house("g"), 60, 0, house_beat(60))
        self.assertEqual(rows[-1], ("f",) * 60)
        self.assertTrue(all("f" not in row for row in rows[:-1]))

    def test_kinds(self):
        rows = row_to(("slowed", 2, house("g")), 3, 0, 2)
        self.assertIsInstance(rows, list)
        self.assertEqual(len(rows), 3)
        self.assertTrue(all(isinstance(row, tuple) and len(row) == 3 for row in rows))

    def test_what_was_told_is_changed_and_asked_for_again(self):
        machine = house("g")
        rows = row_to(machine, 5, 0, 4)
        kept = list(rows)
        rows.clear()
        self.assertEqual(row_to(machine, 5, 0, 4), kept)
        self.assertIsNot(row_to(machine, 5, 0, 4), row_to(machine, 5, 0, 4))


class RowFirst(unittest.TestCase):
    def test_all(self):
        for n in range(1, 21):
            beat = house_beat(n)
            self.assertEqual(row_first(house("g"), n, 0, beat), ("all", beat))
            self.assertEqual(row_first(house("g"), n, 0, beat - 1), ("late", beat - 1))
            self.assertEqual(row_first(house("g"), n, 0, 200), ("all", beat))

    def test_all_started_anywhere(self):
        for n in (1, 2, 5, 9):
            for k in range(n):
                self.assertEqual(row_first(house("m"), n, k, 100), ("all", k + 1 + house_beat(n)))

    def test_some(self):
        self.assertEqual(row_first(counting(3), 6, 0, 3), ("some", 3))
        self.assertEqual(row_first(counting(3), 6, 0, 2), ("late", 2))
        self.assertEqual(row_first(counting(3), 6, 0, 50), ("some", 3))
        self.assertEqual(row_first(counting(3), 6, 2, 3), ("all", 3))
        self.assertEqual(row_first(counting(3), 6, 5, 3), ("some", 3))
        self.assertEqual(row_first(LEANING, 2, 0, 5), ("some", 1))

    def test_never(self):
        self.assertEqual(row_first(BARE, 1, 0, 1), ("never", 1))
        self.assertEqual(row_first(BARE, 3, 1, 9), ("never", 1))
        self.assertEqual(row_first(BLINKING, 1, 0, 2), ("never", 2))
        self.assertEqual(row_first(BLINKING, 4, 3, 100), ("never", 2))
        self.assertEqual(row_first(LEANING, 4, 3, 100), ("never", 1))

    def test_late(self):
        self.assertEqual(row_first(BARE, 1, 0, 0), ("late", 0))
        self.assertEqual(row_first(BLINKING, 1, 0, 1), ("late", 1))
        self.assertEqual(row_first(house("g"), 5, 0, 0), ("late", 0))
        self.assertEqual(row_first(house("g"), 60, 0, 7), ("late", 7))

    def test_a_firing_row_goes_ahead_of_one_that_stood_earlier(self):
        # What fires stays; so the first firing beat is told, not the beat at which the row stands again.
        self.assertEqual(row_first(counting(1), 1, 0, 40), ("all", 1))

    def test_a_row_that_stands_again_behind_a_longer_while(self):
        # The hand goes through a, b and back to a: the start itself never stands again.
        table = ("table", "o", "g", "f", (("", "a", "", "b"), ("", "b", "", "c"), ("", "c", "", "a"), ("", "g", "", "a")))
        self.assertEqual(row_first(table, 1, 0, 3), ("late", 3))
        self.assertEqual(row_first(table, 1, 0, 4), ("never", 4))

    def test_of_machines_put_together(self):
        self.assertEqual(row_first(("later", 2, counting(3)), 4, 0, 9), ("all", 5))
        self.assertEqual(row_first(("later", 2, counting(3)), 4, 0, 4), ("late", 4))
        self.assertEqual(row_first(("slowed", 3, counting(3)), 4, 0, 20), ("all", 9))
        self.assertEqual(row_first(("slowed", 3, counting(3)), 4, 0, 8), ("late", 8))
        self.assertEqual(row_first(("both", counting(2), counting(4)), 3, 0, 20), ("all", 4))
        self.assertEqual(row_first(("either", counting(2), counting(4)), 3, 0, 20), ("all", 2))
        self.assertEqual(row_first(("either", counting(2), counting(4)), 5, 0, 20), ("some", 2))
        self.assertEqual(row_first(("mirrored", house("g")), 7, 6, 100), ("all", house_beat(7)))
        self.assertEqual(row_first(("later", 60, counting(1)), 1, 0, 61), ("all", 61))

    def test_as_the_document_tells(self):
        words = set()
        for machine in chance_machines(80, 4, 22) + PUT_TOGETHER:
            for n in (1, 2, 4, 5):
                for k in {0, n // 2, n - 1}:
                    for late in (0, 1, 3, 14):
                        told = row_first(machine, n, k, late)
                        words.add(told[0])
                        self.assertEqual(told, ref_first(machine, n, k, late, False))
                        self.assertIsInstance(told, tuple)
        self.assertEqual(words, {"all", "some", "never", "late"})


class OpenRow(unittest.TestCase):
    def test_beat_0(self):
        self.assertEqual(open_row(house("g"), 0), ("g",))
        self.assertEqual(open_row(("slowed", 2, BARE), 0), (("start", 0),))

    def test_beat_1(self):
        self.assertEqual(open_row(LEANING, 1), ("o", "g", "f"))
        self.assertEqual(open_row(("mirrored", LEANING), 1), ("f", "g", "o"))

    def test_no_hand_ever_sees_an_end(self):
        # Whoever sees an end fires here, and the start is handed on to both sides.
        table = ("table", "o", "g", "f", (
            ("", "o", "g", "f"), ("g", "o", "", "f"), ("g", "o", "o", "g"), ("o", "g", "", "f"), ("", "g", "o", "f"),
            ("o", "o", "g", "g")))
        table = table[:4] + (tuple(sorted(table[4])),)
        for beat in range(6):
            self.assertEqual(open_row(table, beat), ("g",) * (2 * beat + 1))

    def test_as_a_long_row_started_in_its_midst(self):
        for machine in chance_machines(40, 4, 23) + PUT_TOGETHER + [house("w"), house("g"), counting(3)]:
            for beat in (0, 1, 2, 5):
                many = 4 * beat + 5
                row = ref_run(machine, many, 2 * beat + 2, beat, False)[beat]
                told = open_row(machine, beat)
                self.assertEqual(told, row[beat + 2:3 * beat + 3])
                self.assertEqual(len(told), 2 * beat + 1)
                self.assertIsInstance(told, tuple)

    def test_28_beats(self):
        told = open_row(counting(20), 28)
        self.assertEqual(len(told), 57)
        self.assertEqual(told, ("quiet",) * 8 + ("fire",) * 41 + ("quiet",) * 8)

    def test_told_again(self):
        self.assertEqual(open_row(house("w"), 9), open_row(house("w"), 9))


class Refused(unittest.TestCase):
    def test_no_machine_ahead_of_all_else(self):
        for thing in anythings() + ["a", ("later", 61, BARE), ("slowed", 0, BARE)]:
            for n, k, beats in ((3, 0, 4), (None, "a", []), (0, 0, 0), (-1, -1, -1), (10 ** 30, True, ())):
                with self.assertRaises(NoMachine):
                    row_to(thing, n, k, beats)
                with self.assertRaises(NoMachine):
                    row_first(thing, n, k, beats)
                with self.assertRaises(NoMachine):
                    open_row(thing, beats)

    def test_the_machine_is_left_as_it_was(self):
        machine = ("later", 1, house("g"))
        row_to(machine, 4, 0, 9)
        row_first(machine, 4, 0, 9)
        open_row(machine, 3)
        self.assertEqual(machine, ("later", 1, house("g")))
        self.assertEqual((ref_quiet(machine), ref_start(machine)), (("o", 0), ("g", 0)))
