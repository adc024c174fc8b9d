"""Rows that are run, drawn (points 3 h and 33)."""

import unittest

from firetogether.drawing import drawn
from firetogether.errors import NoMachine
from firetogether.reading import read_row
from firetogether.rows import row_to
from firetogether.showing import show_row
from tests.helpers import BARE, BLINKING, LEANING, anythings, brief, chance_machines, counting, house, ref_run


class Drawn(unittest.TestCase):
    def test_word_for_word(self):
        self.assertEqual(drawn(house("g"), 3, 0, 4), ["g o o", "ga r o", "gb o h", "p g p", "f f f"])
        self.assertEqual(drawn(("later", 1, LEANING), 2, 0, 2), ["(g 0) (o 0)", "(g 0) (f 0)", "(g 0) (f 1)"])
        self.assertEqual(drawn(BARE, 1, 0, 0), ["start"])

    def test_the_texts_of_the_rows_started_anywhere(self):
        machines = [house("g"), house("m"), LEANING, BLINKING, counting(3), ("slowed", 2, house("m")),
                    ("both", ("later", 3, house("g")), ("mirrored", LEANING))] + chance_machines(30, 4, 333)
        for machine in machines:
            for n in (1, 2, 5):
                for k in range(n):
                    told = drawn(machine, n, k, 7)
                    self.assertIsInstance(told, list)
                    self.assertEqual(told, [show_row(row) for row in row_to(machine, n, k, 7)])
                    self.assertEqual([read_row(machine, text) for text in told], ref_run(machine, n, k, 7, False))

    def test_the_list_is_the_askers_own(self):
        told = drawn(house("g"), 4, 0, 5)
        kept = list(told)
        told.clear()
        self.assertEqual(drawn(house("g"), 4, 0, 5), kept)

    def test_no_machine(self):
        for thing in anythings():
            for n, k, beats in ((3, 0, 2), (1, 0, 0), (None, None, None)):
                with self.assertRaises(NoMachine, msg=brief(thing)):
                    drawn(thing, n, k, beats)
