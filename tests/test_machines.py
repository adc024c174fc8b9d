"""What is a machine (points 5 and 6)."""

import unittest

from firetogether.machines import is_machine
from tests.helpers import BARE, LEANING, anythings, brief, chance_machines, counting, deep, house

OTHERS = [None, True, False, 0, 1, 5, "", "a", "table", b"table", [], {}, (), set(), [[[]]], (((),),), {"a": {}}, len]


def mirrored(machine):
    return ("mirrored", machine)


class Machines(unittest.TestCase):
    def good(self, thing):
        self.assertIs(is_machine(thing), True, brief(thing))

    def bad(self, thing):
        self.assertIs(is_machine(thing), False, brief(thing))

    def test_each_of_the_six_kinds(self):
        for machine in (BARE, ("mirrored", BARE), ("later", 3, BARE), ("slowed", 3, BARE), ("both", BARE, LEANING),
                        ("either", LEANING, BARE), ("both", BARE, BARE), house("g"), counting(4)):
            self.good(machine)

    def test_made_by_chance(self):
        for machine in chance_machines(60, 4, 5):
            self.good(machine)

    def test_counts_of_later(self):
        for count in (0, 1, 59, 60):
            self.good(("later", count, BARE))
        for count in (-1, 61, 62, 10 ** 60, -10 ** 60):
            self.bad(("later", count, BARE))

    def test_counts_of_slowed(self):
        for count in (1, 2, 59, 60):
            self.good(("slowed", count, BARE))
        for count in (0, -1, 61, 62, 10 ** 60):
            self.bad(("slowed", count, BARE))

    def test_a_truth_is_no_count(self):
        for word in ("later", "slowed"):
            for count in (True, False):
                self.bad((word, count, BARE))

    def test_other_things_as_counts(self):
        for word in ("later", "slowed"):
            for count in (None, "1", "", b"1", [], [1], (1,), (), {}, {1: 1}, BARE, set(), len, (((1,),),)):
                self.bad((word, count, BARE))

    def test_four_deep_and_five_deep(self):
        wraps = [
            mirrored,
            lambda machine: ("later", 2, machine),
            lambda machine: ("slowed", 2, machine),
            lambda machine: ("both", machine, BARE),
            lambda machine: ("both", BARE, machine),
            lambda machine: ("either", machine, BARE),
            lambda machine: ("either", BARE, machine),
            lambda machine: ("both", machine, machine),
        ]
        for outer in wraps:
            for wrap in wraps:
                self.good(outer(deep(BARE, 1, wrap)))
                self.good(outer(deep(BARE, 2, wrap)))
                self.bad(outer(deep(BARE, 3, wrap)))
                self.bad(outer(deep(BARE, 4, wrap)))

    def test_parts_left_out_put_in_exchanged(self):
        for thing in (
            ("mirrored",), ("mirrored", BARE, BARE), (BARE, "mirrored"), ("mirrored", 0, BARE), ("mirrored", 1, BARE),
            ("later",), ("later", BARE), ("later", 1), ("later", BARE, 1), ("later", 1, BARE, BARE), (1, "later", BARE),
            ("later", 1, 1), ("later", 1, 1, BARE), ("later", BARE, BARE),
            ("slowed",), ("slowed", BARE), ("slowed", 1), ("slowed", BARE, 1), ("slowed", 1, BARE, BARE),
            ("slowed", 1, 1), ("slowed", 1, 1, BARE), ("slowed", BARE, BARE),
            ("both",), ("both", BARE), ("both", BARE, BARE, BARE), (BARE, "both", BARE), ("both", 1, BARE),
            ("both", BARE, 1), ("both", 1, BARE, BARE),
            ("either",), ("either", BARE), ("either", BARE, BARE, BARE), (BARE, BARE, "either"), ("either", BARE, 1),
            ("neither", BARE, BARE), ("Mirrored", BARE), ("", BARE), ("mirrored ", BARE), (b"mirrored", BARE),
            ("table", BARE), ("table",), ("mirrored", "table"), ("sooner", 1, BARE), (True, BARE), (None, BARE),
        ):
            self.bad(thing)

    def test_lists_are_no_tuples(self):
        for thing in (["mirrored", BARE], ["later", 1, BARE], ["slowed", 1, BARE], ["both", BARE, BARE], list(BARE),
                      ("mirrored", list(BARE)), ("later", 1, ["mirrored", BARE]), ("both", BARE, list(BARE))):
            self.bad(thing)

    def test_other_things_as_machines_within(self):
        broken = ("table", "o", "o", "f", ())
        for thing in OTHERS + [broken]:
            self.bad(("mirrored", thing))
            self.bad(("later", 1, thing))
            self.bad(("slowed", 1, thing))
            self.bad(("both", BARE, thing))
            self.bad(("both", thing, BARE))
            self.bad(("either", BARE, thing))
            self.bad(("either", thing, BARE))
            self.bad(("both", ("mirrored", ("later", 1, thing)), BARE))

    def test_more_than_six_tables_and_400_rows(self):
        eight = deep(BARE, 3, lambda machine: ("both", machine, machine))
        self.good(eight)
        letters = "abcdefghij"
        rows = tuple((a, b, c, "z") for a in letters for b in letters[:5] for c in letters)
        self.assertGreater(len(rows), 400)
        self.good(("mirrored", ("table", "x", "y", "w", rows)))

    def test_of_anything(self):
        for thing in anythings():
            self.bad(thing)
            self.bad(("mirrored", thing))
            self.bad((thing, BARE))

    def test_told_again(self):
        for thing in (house("g"), ("later", 61, BARE)):
            self.assertIs(is_machine(thing), is_machine(thing))
