"""Mends (points 3 j and 36)."""

import random
import unittest

from firetogether.errors import NoMachine
from firetogether.judging import judged
from firetogether.mending import mends
from firetogether.tables import is_table
from tests.helpers import (
    BARE, BLINKING, LEANING, anythings, brief, chance_table, counting, exchanged, house, ref_first, ref_states, without,
)

ROW = house("g")


def with_row(table, row):
    """The table with the row instead of the one with its first three; where new is own, with none."""
    rows = {other[:3]: other[3] for other in table[4]}
    rows.pop(row[:3], None)
    if row[1] != row[3]:
        rows[row[:3]] = row[3]
    return table[:4] + (tuple(sorted(key + (new,) for key, new in rows.items())),)


def ref_right(table, most, late):
    return all(ref_first(table, n, 0, late, False)[0] == "all" for n in range(1, most + 1))


def ref_mends(table, most, late):
    """By trying every (left, own, right, new)."""
    if ref_right(table, most, late):
        return []
    states = ref_states(table)
    told = []
    for left in [""] + states:
        for own in states:
            for right in [""] + states:
                for new in states:
                    other = with_row(table, (left, own, right, new))
                    if is_table(other) and ref_right(other, most, late):
                        told.append((left, own, right, new))
    return sorted(told)


class Mends(unittest.TestCase):
    def test_small(self):
        fires = ("", "g", "", "f")
        self.assertEqual(mends(("table", "o", "g", "f", ()), 1, 5), [fires])
        self.assertEqual(mends(("table", "o", "g", "f", (fires,)), 1, 5), [])
        self.assertEqual(mends(("table", "o", "g", "f", (fires,)), 2, 5), [])
        self.assertEqual(mends(("table", "o", "g", "f", ()), 1, 0), [])
        two = ("table", "o", "g", "f", (("", "g", "", "f"), ("", "g", "o", "f"), ("g", "o", "", "f")))
        self.assertEqual(mends(two, 2, 1), [])
        for at in range(3):
            self.assertEqual(mends(without(two, at), 2, 1), [two[4][at]])

    def test_new_as_own_leaves_no_row(self):
        # Two hands: both wait as they are till the left one, at the next beat, has seen the right one.
        table = ("table", "o", "g", "f", (
            ("", "a", "o", "f"), ("", "g", "", "f"), ("", "g", "o", "a"), ("a", "o", "", "f"), ("g", "o", "", "f")))
        self.assertEqual(judged(table, 2, 9), ("wrong", 2, "some", 1))
        self.assertIn(("g", "o", "", "o"), mends(table, 2, 9))
        self.assertEqual(mends(table, 2, 9), ref_mends(table, 2, 9))

    def test_one_row_otherwise_by_trying_all(self):
        rng = random.Random(361)
        found = 0
        for beats, most in ((1, 2), (2, 2), (2, 3), (3, 3)):
            table = counting(beats)
            self.assertIs(ref_right(table, most, 9), True)
            self.assertEqual(mends(table, most, 9), [])
            for turn in range(6):
                at = rng.randrange(len(table[4]))
                news = [state for state in ref_states(table) if state not in (table[4][at][1], table[4][at][3])]
                for wrong in (without(table, at), exchanged(table, at, rng.choice(news)) if news else table):
                    told = mends(wrong, most, 9)
                    self.assertEqual(told, ref_mends(wrong, most, 9))
                    found += len(told)
        self.assertGreater(found, 20)

    def test_tables_made_by_chance_by_trying_all(self):
        rng = random.Random(362)
        found = 0
        for turn in range(60):
            table = chance_table(rng)
            if len(ref_states(table)) > 4:
                continue
            for most, late in ((1, 5), (2, 6)):
                told = mends(table, most, late)
                self.assertEqual(told, ref_mends(table, most, late))
                found += len(told)
        self.assertGreater(found, 20)

    def test_late_and_never(self):
        # The hand that would fire one beat too late is told to fire sooner.
        waiting = ("table", "o", "g", "f", (("", "a", "", "b"), ("", "b", "", "f"), ("", "g", "", "a")))
        self.assertEqual(mends(waiting, 1, 3), [])
        self.assertEqual(mends(waiting, 1, 2), ref_mends(waiting, 1, 2))
        self.assertEqual(mends(waiting, 1, 2), [("", "a", "", "f"), ("", "g", "", "b"), ("", "g", "", "f")])
        self.assertEqual(mends(waiting, 1, 1), [("", "g", "", "f")])
        self.assertEqual(mends(waiting, 1, 0), [])
        self.assertEqual(mends(BLINKING, 1, 9), ref_mends(BLINKING, 1, 9))

    def test_where_nothing_alone_mends_it(self):
        self.assertEqual(mends(BARE, 2, 9), [])
        self.assertEqual(mends(LEANING, 3, 9), ref_mends(LEANING, 3, 9))
        first, second = [at for at, row in enumerate(ROW[4]) if row in (("g", "p", "g", "f"), ("ra", "o", "l", "l"))]
        self.assertEqual(mends(without(without(ROW, second), first), 12, 60), [])

    def test_the_house_with_one_row_left_out_or_exchanged(self):
        wrong = 0
        for at, row in enumerate(ROW[4]):
            new = "h" if "h" not in (row[1], row[3]) else "o" if "o" not in (row[1], row[3]) else "p"
            # Some rows are left out, some exchanged: all both ways would take long.
            table = without(ROW, at) if at % 2 == 0 else exchanged(ROW, at, new)
            if judged(table, 12, 60)[0] == "right":
                self.assertEqual(mends(table, 12, 60), [])
                continue
            wrong += 1
            told = mends(table, 12, 60)
            self.assertIn(row, told)
            self.assertEqual(told, sorted(set(told)))
            for mend in told:
                self.assertEqual(judged(with_row(table, mend), 12, 60)[0], "right")
        self.assertGreater(wrong, 80)

    def test_the_list_is_the_askers_own(self):
        for table in (without(ROW, 0), ROW):
            told = mends(table, 4, 20)
            kept = list(told)
            told.append(None)
            self.assertEqual(mends(table, 4, 20), kept)


class Refused(unittest.TestCase):
    def test_what_is_no_table(self):
        for thing in anythings() + [("mirrored", ROW), ("later", 0, ROW), ("both", ROW, ROW), ("slowed", 1, BARE)]:
            for most, late in ((1, 0), (5, 20), (None, None)):
                with self.assertRaises(NoMachine, msg=brief(thing)):
                    mends(thing, most, late)
