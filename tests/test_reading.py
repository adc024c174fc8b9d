"""Machines and rows, read (points 3 h, 32 and 33)."""

import random
import re
import unittest

from firetogether.errors import FireError, NoMachine, NoWords
from firetogether.house import anywhere_machine, ring_machine, row_machine
from firetogether.reading import read_machine, read_row
from firetogether.showing import show_machine, show_row
from tests.helpers import (
    BARE, BLINKING, LEANING, anythings, brief, chance_machines, counting, house, ref_run, ref_states, without,
)

HOUSES = {"row": house("g"), "anywhere": house("m"), "round": house("w")}
LEANING_TEXT = "table o g f g o - f g o o f ."
NAME = "[a-z]{1,8}"
SIDE = f"(?:{NAME}|-)"


def written_out(table):
    """A table by its rows, also one of the house's."""
    return " ".join(("table",) + table[1:4] + tuple(name or "-" for row in table[4] for name in row) + (".",))


def ref_table(text):
    """The table that is so written, by plain signs; None where it is none. The house's are no such text."""
    if not re.fullmatch(f"table {NAME} {NAME} {NAME}(?: {SIDE} {NAME} {SIDE} {NAME})* \\.", text):
        return None
    words = [word.replace("-", "") for word in text.split(" ")[1:-1]]
    quiet, start, fire = words[:3]
    rows = [tuple(words[at:at + 4]) for at in range(3, len(words), 4)]
    keys = [row[:3] for row in rows]
    good = len({quiet, start, fire}) == 3 and rows == sorted(rows) and len(set(keys)) == len(keys)
    for left, own, right, new in rows:
        calm = own == quiet and {left, right} <= {quiet, ""}
        good = good and own != new and own != fire and not calm
    table = ("table", quiet, start, fire, tuple(rows))
    return table if good and table not in HOUSES.values() else None


def ref_read(text):
    """The machine that is so written; None where it is none. By trying every place to part it in two."""
    def read(words, deep):
        if deep > 4 or not words:
            return None
        text, first = " ".join(words), words[0]
        if text in HOUSES:
            return HOUSES[text]
        if first == "table":
            return ref_table(text)
        if first == "mirrored":
            part = read(words[1:], deep + 1)
            return part and (first, part)
        if first in ("later", "slowed"):
            if len(words) < 2 or not re.fullmatch("0|[1-9][0-9]?", words[1]):
                return None
            count = int(words[1])
            part = read(words[2:], deep + 1)
            return part and (first, count, part) if (first == "slowed") <= count <= 60 else None
        if first in ("both", "either"):
            for at in range(2, len(words)):
                one, other = read(words[1:at], deep + 1), read(words[at:], deep + 1)
                if one and other:
                    return (first, one, other)
        return None
    return read(text.split(" "), 1)


class ReadMachine(unittest.TestCase):
    def refused(self, text):
        with self.assertRaises(NoWords, msg=brief(text)):
            read_machine(text)

    def test_the_houses_tables(self):
        self.assertEqual(read_machine("row"), row_machine())
        self.assertEqual(read_machine("anywhere"), anywhere_machine())
        self.assertEqual(read_machine("round"), ring_machine())
        self.assertEqual(read_machine("both mirrored row later 0 round"),
                         ("both", ("mirrored", house("g")), ("later", 0, house("w"))))

    def test_each_kind(self):
        self.assertEqual(read_machine("table quiet start fire ."), BARE)
        self.assertEqual(read_machine(LEANING_TEXT), LEANING)
        self.assertEqual(read_machine("mirrored " + LEANING_TEXT), ("mirrored", LEANING))
        self.assertEqual(read_machine("later 60 " + LEANING_TEXT), ("later", 60, LEANING))
        self.assertEqual(read_machine("slowed 7 row"), ("slowed", 7, house("g")))
        self.assertEqual(read_machine("both anywhere " + LEANING_TEXT), ("both", house("m"), LEANING))
        self.assertEqual(read_machine(f"either {LEANING_TEXT} round"), ("either", LEANING, house("w")))

    def test_names_that_are_words_too(self):
        table = ("table", "row", "table", "later", (("both", "table", "", "row"),))
        self.assertEqual(read_machine("table row table later both table - row ."), table)
        self.assertEqual(read_machine("both table row table later . round"), ("both", table[:4] + ((),), house("w")))

    def test_what_is_written_is_read_as_it_was(self):
        machines = chance_machines(120, 4, 322) + [BARE, LEANING, BLINKING, counting(5)]
        for at in range(0, len(house("g")[4]), 9):
            machines.append(("mirrored", without(house("g"), at)))
        for machine in machines:
            text = show_machine(machine)
            told = read_machine(text)
            self.assertEqual(told, machine)
            self.assertEqual(repr(told), repr(machine))
            self.assertEqual(read_machine(text), told)

    def test_blanks(self):
        for text in ("row", "mirrored row", "later 3 row", LEANING_TEXT, "both row table quiet start fire ."):
            read_machine(text)
            self.refused(" " + text)
            self.refused(text + " ")
            self.refused(text + "\n")
            self.refused("\n" + text)
            for at in range(len(text)):
                if text[at] == " ":
                    self.refused(text[:at] + " " + text[at:])
                    for sign in ("\t", "\n", "", ",", "_", "\u00a0"):
                        self.refused(text[:at] + sign + text[at + 1:])

    def test_words_too_many_or_too_few(self):
        for text in ("row", "mirrored row", "later 3 row", "slowed 3 round", LEANING_TEXT, "both row anywhere",
                     "either mirrored row table quiet start fire ."):
            words = text.split(" ")
            for at in range(len(words)):
                fewer = " ".join(words[:at] + words[at + 1:])
                if ref_read(fewer) is None:
                    self.refused(fewer)
                else:
                    self.assertIn(words[at], ("mirrored", "later", "slowed"))
                for more in ("row", ".", "0", "o", "-", "table", "mirrored"):
                    other = " ".join(words[:at] + [more] + words[at:])
                    if ref_read(other) is None:
                        self.refused(other)
                    self.refused(text + " " + more)

    def test_numbers(self):
        for word, least in (("later", 0), ("slowed", 1)):
            for count in range(least, 61):
                self.assertEqual(read_machine(f"{word} {count} row"), (word, count, house("g")))
            for count in ("00", "01", "07", "060", "61", "99", "100", "-1", "+1", "1.0", "1e1", "", "a", "x1", "1x", "\u0661",
                          "\u00b2", "1_0", "0x1", "(1)", "9" * 5000, "0" * 5000, "1" * 4301, "-"):
                self.refused(f"{word} {count} row")
        self.refused("slowed 0 row")
        self.refused("mirrored 1 row")

    def test_rows_out_of_order_or_twice(self):
        self.refused("table o g f g o o f g o - f .")
        self.refused("table o g f g o - f g o - f .")
        self.refused("table o g f g o - f g o - g .")
        self.refused("table o g f g o - g g o - f .")
        for at in range(len(BLINKING[4]) - 1):
            rows = list(BLINKING[4])
            rows[at], rows[at + 1] = rows[at + 1], rows[at]
            self.refused(written_out(BLINKING[:4] + (tuple(rows),)))

    def test_the_houses_tables_by_their_rows(self):
        for table in HOUSES.values():
            self.refused(written_out(table))
            self.refused("mirrored " + written_out(table))
            self.refused("both row " + written_out(table))
            near = without(table, 3)
            self.assertEqual(read_machine(written_out(near)), near)

    def test_no_table(self):
        for text in ("table", "table .", "table o .", "table o g .", "table o g f", "table o o f .", "table o g o .",
                     "table o g g .", "table O g f .", "table o g - .", "table - g f .", "table o g abcdefghi .",
                     "table o g f . .", "table o g f - .", "table o g f - g .", "table o g f - g - .",
                     "table o g f - g - g .", "table o g f - f - g .", "table o g f - o - g .", "table o g f o o o g .",
                     "table o g f - - - g .", "table o g f - g - - .", "table o g f - g - f", "table o g f - g 1 f .",
                     "table o g f . g - f .", "table o g f - . - f .", "table o g f  g  f .", "table o g f - g - f . row",
                     "table o g f - g - f .row", "table o g f - g - f..", "table o g f (- g -) f ."):
            self.refused(text)
            self.refused("mirrored " + text)

    def test_four_deep_and_deeper(self):
        self.assertEqual(read_machine("mirrored mirrored mirrored row"),
                         ("mirrored", ("mirrored", ("mirrored", house("g")))))
        for wrap in ("mirrored", "later 1", "slowed 2", "both row", "either row"):
            for inner in ("row", "table o g f ."):
                read_machine(f"{wrap} {wrap} {wrap} {inner}")
                self.refused(f"{wrap} {wrap} {wrap} {wrap} {inner}")
                self.refused(f"{wrap} " * 400 + inner)
                self.refused(f"both {inner} {wrap} {wrap} {wrap} {inner}")
        self.refused("both " * 1100 + "row")
        self.refused("mirrored " * 600)
        self.refused("later 1 " * 20000 + "row")

    def test_other_words_and_signs(self):
        for text in ("", " ", ".", "-", "0", "o", "Row", "ROW", "rows", "row.", "ring", "machine", "none", "row row", "mirrored",
                     "mirrored .", "later", "later 1", "later row", "later row 1", "slowed", "slowed 1", "both", "both row",
                     "both row row row", "either", "either row", "neither row row", "(row)", "mirrored (row)", "\u00e9",
                     "r\u00f6w", "row\x00", "row%", "mirrored,row", "'row'", "table quiet start fire . .", "\ud800"):
            self.refused(text)

    def test_things_of_any_kind(self):
        for thing in anythings() + [b"row", ["row"], ("row",), {"row": 1}, house("g"), ("mirrored", house("g"))]:
            self.refused(thing)

    def test_texts_with_one_thing_otherwise(self):
        rng = random.Random(323)
        words = ["row", "anywhere", "round", "table", "o", "g", "f", "-", ".", "mirrored", "later", "slowed", "both",
                 "either", "0", "1", "60", "61", "", "quiet"]
        texts = [show_machine(machine) for machine in (
            ("both", BARE, ("later", 3, LEANING)), ("mirrored", ("slowed", 2, BARE)), ("either", house("g"), house("w")),
            ("both", ("either", house("m"), BARE), ("mirrored", LEANING)), ("later", 60, ("mirrored", ("slowed", 1, LEANING))))]
        kept = 0
        for turn in range(3000):
            parts = rng.choice(texts).split(" ")
            for change in range(rng.choice([1, 1, 2])):
                at = rng.randrange(len(parts))
                parts[at:at + rng.choice([0, 1, 1, 2])] = rng.choice([[], [rng.choice(words)], [rng.choice(words)] * 2])
                parts = parts or [""]
            text = " ".join(parts)
            told = ref_read(text)
            if told is None:
                self.refused(text)
            else:
                kept += 1
                self.assertEqual(read_machine(text), told)
        self.assertGreater(kept, 100)

    def test_a_refusal_of_the_programs_own(self):
        with self.assertRaises(FireError):
            read_machine("rows")


MACHINES = [
    house("g"), LEANING, BARE, ("mirrored", LEANING), ("later", 60, LEANING), ("later", 0, BARE), ("slowed", 12, LEANING),
    ("slowed", 1, BARE), ("both", LEANING, BARE), ("either", ("later", 3, BARE), LEANING),
    ("both", ("slowed", 2, ("later", 1, LEANING)), ("either", BARE, ("mirrored", LEANING))),
    ("later", 2, ("later", 11, ("later", 0, LEANING))), ("mirrored", ("mirrored", ("mirrored", BARE))),
]


class ReadRow(unittest.TestCase):
    def refused(self, machine, text):
        with self.assertRaises(NoWords, msg=brief(text)):
            read_row(machine, text)

    def test_names_pairs_and_numbers(self):
        self.assertEqual(read_row(LEANING, "o"), ("o",))
        self.assertEqual(read_row(LEANING, "g o f"), ("g", "o", "f"))
        self.assertEqual(read_row(("later", 60, LEANING), "(g 0) (o 7) (f 60)"), (("g", 0), ("o", 7), ("f", 60)))
        self.assertEqual(read_row(("both", LEANING, BARE), "(g start) (o quiet)"), (("g", "start"), ("o", "quiet")))
        self.assertEqual(read_row(("slowed", 2, ("either", BARE, ("later", 1, LEANING))), "((fire (g 1)) 0)"),
                         ((("fire", ("g", 1)), 0),))

    def test_what_is_written_is_read_as_it_was(self):
        for machine in MACHINES + chance_machines(40, 4, 332):
            states = ref_states(machine)
            for row in [tuple(states[:50]), tuple(states[-3:])] + [(state,) for state in states[:30]]:
                told = read_row(machine, show_row(row))
                self.assertEqual(told, row)
                self.assertEqual(repr(told), repr(row))

    def test_rows_that_are_run(self):
        for machine in MACHINES:
            for row in ref_run(machine, 6, 2, 5, False):
                self.assertEqual(read_row(machine, show_row(row)), row)

    def test_a_state_that_is_none_of_the_machines(self):
        self.refused(LEANING, "z")
        self.refused(LEANING, "g o z")
        self.refused(LEANING, "quiet")
        self.refused(LEANING, "(g 0)")
        self.refused(LEANING, "0")
        self.refused(LEANING, "g 0")
        later = ("later", 3, LEANING)
        for text in ("g", "0", "(g 4)", "(g 61)", "(z 0)", "(g g)", "(0 g)", "(0 0)", "(g 0 0)", "(g)", "()", "((g 0) 0)",
                     "(g -1)", "(g 00)", "(g 03)", "(g +1)", "(g 1.0)", "(g \u0661)", "(g \u00b2)", "(g )", "( 0)"):
            self.refused(later, text)
            self.refused(later, "(g 0) " + text)
        self.refused(("slowed", 2, LEANING), "(g 2)")
        self.refused(("both", LEANING, BARE), "(start g)")
        self.refused(("both", LEANING, BARE), "(g start 0)")
        self.refused(("both", LEANING, BARE), "(g g)")

    def test_brackets_too_many_or_too_few(self):
        for machine in MACHINES:
            text = show_row(tuple(ref_states(machine)[:3]))
            self.assertEqual(read_row(machine, text), tuple(ref_states(machine)[:3]))
            for at in range(len(text) + 1):
                for sign in ("(", ")"):
                    self.refused(machine, text[:at] + sign + text[at:])
            for at in range(len(text)):
                if text[at] in "()":
                    self.refused(machine, text[:at] + text[at + 1:])
            self.refused(machine, f"({text})")
            self.refused(machine, "(" + text)
            self.refused(machine, text + ")")
            for pair in ("()", "( )", ")(", "(())"):
                self.refused(machine, text + " " + pair)

    def test_brackets_that_stand_very_deep(self):
        for machine in MACHINES:
            for many in (4, 5, 100, 2700, 20000):
                self.refused(machine, "(" * many)
                self.refused(machine, ")" * many)
                self.refused(machine, "(" * many + ")" * many)
                self.refused(machine, "(" * many + "g" + " 0)" * many)
                self.refused(machine, "(g " * many + "0" + ")" * many)
                self.refused(machine, "( " * many)

    def test_no_state_and_blanks(self):
        for machine in MACHINES:
            self.refused(machine, "")
            self.refused(machine, " ")
            text = show_row(tuple(ref_states(machine)[:3]))
            self.refused(machine, " " + text)
            self.refused(machine, text + " ")
            self.refused(machine, text + "\n")
            for at in range(len(text)):
                if text[at] in " ()":
                    self.refused(machine, text[:at] + " " + text[at:])
                    self.refused(machine, text[:at + 1] + " " + text[at + 1:])
                if text[at] == " ":
                    for sign in ("\t", "\n", ",", "", "\u00a0"):
                        self.refused(machine, text[:at] + sign + text[at + 1:])

    def test_other_signs_and_great_numbers(self):
        for machine in MACHINES:
            for text in ("G", "g.", "-", ".", "\u00e9", "g%", "\ud800", "[g 0]", "{g 0}", "(g,0)", "('g' 0)", "(g " + "9" * 5000 + ")",
                         "(g " + "0" * 5000 + ")", "9" * 5000, "1" * 4301):
                self.refused(machine, text)

    def test_things_of_any_kind(self):
        for machine in MACHINES[:5]:
            for thing in anythings() + [("g",), ["g"], b"g", {"g": 1}]:
                self.refused(machine, thing)

    def test_no_machine_ahead_of_it(self):
        for thing in anythings():
            for text in ("o", "", "((((", None, 5, []):
                with self.assertRaises(NoMachine, msg=brief(thing)):
                    read_row(thing, text)
