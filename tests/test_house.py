"""The house's tables (point 18)."""

import unittest

from firetogether.house import anywhere_machine, house_rows, ring_machine, row_machine
from firetogether.machines import is_machine
from firetogether.tables import is_table, states_of
from tests.helpers import HOUSE_TEXT, house, rows_of


class House(unittest.TestCase):
    def test_the_rows_as_the_document_writes_them(self):
        self.assertEqual(house_rows(), rows_of(HOUSE_TEXT))

    def test_how_many(self):
        self.assertEqual(len(house_rows()), 116)
        self.assertEqual(len(set(house_rows())), 116)

    def test_some_of_them(self):
        for row in (("", "g", "o", "ga"), ("", "g", "", "f"), ("ga", "h", "", "f"), ("gb", "o", "h", "g"),
                    ("r", "wb", "o", "k"), ("k", "rc", "o", "o"), ("", "o", "m", "m"), ("", "m", "", "g")):
            self.assertIn(row, house_rows())

    def test_a_rising_tuple_of_tuples_of_texts(self):
        told = house_rows()
        self.assertIsInstance(told, tuple)
        self.assertEqual(list(told), sorted(told))
        for row in told:
            self.assertIsInstance(row, tuple)
            self.assertEqual([len(row)] + [isinstance(word, str) for word in row], [4, True, True, True, True])

    def test_ends_are_the_empty_text(self):
        told = house_rows()
        self.assertFalse([row for row in told if "-" in row])
        self.assertEqual(len([row for row in told if row[0] == ""]), 11)
        self.assertEqual(len([row for row in told if row[2] == ""]), 9)

    def test_the_three_tables(self):
        self.assertEqual(row_machine(), ("table", "o", "g", "f", house_rows()))
        self.assertEqual(anywhere_machine(), ("table", "o", "m", "f", house_rows()))
        self.assertEqual(ring_machine(), ("table", "o", "w", "f", house_rows()))
        self.assertEqual([row_machine(), anywhere_machine(), ring_machine()], [house(start) for start in "gmw"])

    def test_each_is_a_table(self):
        for machine in (row_machine(), anywhere_machine(), ring_machine()):
            self.assertIs(is_table(machine), True)
            self.assertIs(is_machine(machine), True)
            self.assertEqual(len(states_of(machine)), 20)

    def test_told_again(self):
        self.assertEqual(house_rows(), house_rows())
        self.assertEqual(row_machine(), row_machine())
