"""Machines and rows, written (points 32 and 33)."""

import unittest

from firetogether.errors import NoMachine
from firetogether.house import anywhere_machine, ring_machine, row_machine
from firetogether.showing import show_machine, show_row
from tests.helpers import BARE, LEANING, anythings, brief, chance_machines, house, ref_states, without

ONE_ROW = ("table", "o", "g", "f", (("", "g", "", "f"),))
LEANING_TEXT = "table o g f g o - f g o o f ."


def ref_words(machine):
    """By the words of the point."""
    houses = {house("g"): "row", house("m"): "anywhere", house("w"): "round"}
    if machine in houses:
        return houses[machine]
    if machine[0] == "table":
        return " ".join(("table",) + machine[1:4] + tuple(name or "-" for row in machine[4] for name in row) + (".",))
    return " ".join(part if isinstance(part, str) else str(part) if isinstance(part, int) else ref_words(part)
                    for part in machine)


class ShowMachine(unittest.TestCase):
    def test_the_houses_tables(self):
        self.assertEqual(show_machine(row_machine()), "row")
        self.assertEqual(show_machine(anywhere_machine()), "anywhere")
        self.assertEqual(show_machine(ring_machine()), "round")

    def test_the_houses_tables_wherever_they_stand(self):
        row, anywhere, ring = house("g"), house("m"), house("w")
        self.assertEqual(show_machine(("mirrored", row)), "mirrored row")
        self.assertEqual(show_machine(("both", anywhere, ring)), "both anywhere round")
        self.assertEqual(show_machine(("either", ("slowed", 3, ("later", 0, ring)), row)), "either slowed 3 later 0 round row")

    def test_other_tables(self):
        self.assertEqual(show_machine(BARE), "table quiet start fire .")
        self.assertEqual(show_machine(ONE_ROW), "table o g f - g - f .")
        self.assertEqual(show_machine(LEANING), LEANING_TEXT)

    def test_names_that_are_words_too(self):
        table = ("table", "row", "table", "later", (("both", "table", "", "row"),))
        self.assertEqual(show_machine(table), "table row table later both table - row .")

    def test_nearly_the_houses(self):
        for table in (without(house("g"), 0), ("table", "o", "ga", "f", house("g")[4]), house("g")[:3] + ("z", house("g")[4])):
            self.assertEqual(show_machine(table), ref_words(table))
            self.assertTrue(show_machine(table).startswith("table o "))

    def test_each_kind(self):
        self.assertEqual(show_machine(("mirrored", LEANING)), "mirrored " + LEANING_TEXT)
        self.assertEqual(show_machine(("later", 0, LEANING)), "later 0 " + LEANING_TEXT)
        self.assertEqual(show_machine(("later", 60, LEANING)), "later 60 " + LEANING_TEXT)
        self.assertEqual(show_machine(("slowed", 1, LEANING)), "slowed 1 " + LEANING_TEXT)
        self.assertEqual(show_machine(("both", BARE, LEANING)), "both table quiet start fire . " + LEANING_TEXT)
        self.assertEqual(show_machine(("either", LEANING, BARE)), "either " + LEANING_TEXT + " table quiet start fire .")

    def test_made_by_chance(self):
        for machine in chance_machines(80, 4, 321):
            self.assertEqual(show_machine(machine), ref_words(machine))
            self.assertEqual(show_machine(machine), show_machine(machine))

    def test_no_machine(self):
        for thing in anythings():
            with self.assertRaises(NoMachine, msg=brief(thing)):
                show_machine(thing)


class ShowRow(unittest.TestCase):
    def test_names(self):
        self.assertEqual(show_row(("a",)), "a")
        self.assertEqual(show_row(("g", "o", "abcdefgh")), "g o abcdefgh")

    def test_pairs_and_numbers(self):
        self.assertEqual(show_row((("a", 0), ("b", 60))), "(a 0) (b 60)")
        self.assertEqual(show_row((("a", "b"), ("c", "d"))), "(a b) (c d)")
        self.assertEqual(show_row(((("a", 1), 2),)), "((a 1) 2)")
        self.assertEqual(show_row(((("a", 1), ("b", ("c", 12))),)), "((a 1) (b (c 12)))")
        self.assertEqual(show_row((((("a", 0), 0), 0),)), "(((a 0) 0) 0)")

    def test_made_by_chance(self):
        for machine in chance_machines(30, 4, 331):
            states = tuple(ref_states(machine)[:40])
            told = repr(states).replace("'", "").replace(",", "")[1:-1]
            self.assertEqual(show_row(states), told)
