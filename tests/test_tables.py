"""Names, tables and their states (points 4 and 6)."""

import unittest

from firetogether.errors import NoMachine
from firetogether.tables import is_name, is_table, states_of
from tests.helpers import BARE, BLINKING, LEANING, anythings, brief, counting, house

# Things of other kinds, to be put at each place of a table.
OTHERS = [
    None, True, False, 0, 1, -1, 10 ** 60, b"", b"o", b"a", [], ["a"], {}, {"a": "b"}, (), ("a",), set(), frozenset(),
    [[[[]]]], ((((),),),), {"a": {"b": {}}}, len, object,
]


def table(*rows):
    return ("table", "o", "g", "f", tuple(rows))


class Names(unittest.TestCase):
    def test_one_to_eight_letters(self):
        for name in ("a", "z", "m", "az", "abcdefg", "abcdefgh", "zzzzzzzz"):
            self.assertIs(is_name(name), True, name)

    def test_none_and_nine(self):
        for text in ("", "abcdefghi", "a" * 5600):
            self.assertIs(is_name(text), False, text)

    def test_other_signs(self):
        for text in ("A", "aB", "a1", "0", "a b", " ", " a", "a ", "a\n", "\n", "-", "_", "a_b", "`", "{", "a.",
                     "\u00e9", "\u00df", "\u0251", "\u03b1", "\uff41", "a\u0301", "\x00", "a%"):
            self.assertIs(is_name(text), False, repr(text))

    def test_what_is_no_text(self):
        for thing in OTHERS + [("a", "b"), ["a", "b"], {"a": 1}]:
            self.assertIs(is_name(thing), False, brief(thing))

    def test_of_anything(self):
        for thing in anythings():
            if not (isinstance(thing, str) and thing == "table"):
                self.assertIs(is_name(thing), False, brief(thing))


class Tables(unittest.TestCase):
    def good(self, thing):
        self.assertIs(is_table(thing), True, brief(thing))

    def bad(self, thing):
        self.assertIs(is_table(thing), False, brief(thing))

    def test_tables(self):
        for thing in (house("g"), house("m"), house("w"), counting(1), counting(9), BARE, LEANING, BLINKING):
            self.good(thing)

    def test_no_rows_at_all(self):
        self.good(("table", "o", "g", "f", ()))
        self.bad(("table", "o", "g", "f"))
        self.bad(("table", "o", "g", "f", None))

    def test_the_word(self):
        for word in ("Table", "tables", "", "tabl", "o", "mirrored"):
            self.bad((word, "o", "g", "f", ()))

    def test_three_unlike_names(self):
        self.bad(("table", "o", "o", "f", ()))
        self.bad(("table", "o", "g", "o", ()))
        self.bad(("table", "o", "g", "g", ()))
        self.bad(("table", "o", "o", "o", ()))
        self.good(("table", "f", "o", "g", ()))
        self.good(("table", "table", "abcdefgh", "f", ()))

    def test_each_of_the_three_is_a_name(self):
        for at in (1, 2, 3):
            for thing in OTHERS + ["", "A", "abcdefghi", "a b", "1"]:
                parts = list(table())
                parts[at] = thing
                self.bad(tuple(parts))

    def test_a_tuple_of_five(self):
        self.bad(list(table()))
        self.bad(table() + ((),))
        self.bad(table()[:4])
        self.bad(table()[1:])
        self.bad(())
        self.bad({"table": table()})

    def test_rows_are_a_tuple(self):
        row = ("", "g", "", "a")
        self.good(table(row))
        for rows in ([row], [], {row: True}, {}, row, "", "abcd", None, 0, {row}, frozenset([row]), b"", True):
            self.bad(("table", "o", "g", "f", rows))

    def test_each_row_is_a_tuple_of_four(self):
        self.bad(table(["", "g", "", "a"]))
        self.bad(table(("", "g", "")))
        self.bad(table(("", "g", "", "a", "b")))
        self.bad(table(()))
        for thing in OTHERS + ["", "abcd", "a"]:
            self.bad(table(thing))
            self.bad(table(("", "g", "", "a"), thing))
            self.bad(table(thing, ("", "g", "", "a")))

    def test_other_kinds_at_each_place_of_a_row(self):
        for at in range(4):
            for thing in OTHERS + ["A", "abcdefghi", "a b", "-", "\u00e9"]:
                row = ["a", "g", "b", "c"]
                row[at] = thing
                self.bad(table(tuple(row)))
                self.bad(table(("", "a", "", "b"), tuple(row)))
                self.bad(table(tuple(row), ("z", "z", "z", "a")))

    def test_ends(self):
        self.good(table(("", "g", "a", "b")))
        self.good(table(("a", "g", "", "b")))
        self.good(table(("", "g", "", "b")))
        self.bad(table(("a", "", "a", "b")))
        self.bad(table(("a", "b", "a", "")))

    def test_own_and_new_are_unlike(self):
        self.bad(table(("", "g", "", "g")))
        self.bad(table(("a", "b", "c", "b")))
        self.good(table(("a", "b", "c", "a")))

    def test_rows_rise(self):
        low, mid, high = ("", "g", "", "a"), ("", "g", "a", "o"), ("a", "a", "a", "f")
        self.good(table(low, mid, high))
        for rows in ((mid, low), (high, low), (low, high, mid), (mid, low, high), (high, mid, low)):
            self.bad(table(*rows))

    def test_rows_rise_at_each_place(self):
        for low, high in (
            (("a", "z", "z", "b"), ("b", "a", "a", "c")),
            (("a", "a", "z", "b"), ("a", "b", "a", "c")),
            (("a", "b", "", "z"), ("a", "b", "a", "c")),
            (("", "b", "z", "z"), ("a", "b", "a", "c")),
            (("a", "b", "a", "z"), ("a", "b", "aa", "c")),
        ):
            self.good(table(low, high))
            self.bad(table(high, low))

    def test_rows_are_unlike(self):
        row = ("", "g", "", "a")
        self.bad(table(row, row))
        self.bad(table(row, row, ("a", "a", "a", "f")))

    def test_no_two_rows_with_the_same_first_three(self):
        self.bad(table(("", "g", "", "a"), ("", "g", "", "b")))
        self.bad(table(("", "g", "", "b"), ("", "g", "", "a")))
        self.bad(table(("", "a", "", "b"), ("a", "g", "a", "b"), ("a", "g", "a", "c")))
        self.good(table(("", "a", "", "b"), ("", "g", "", "b")))

    def test_own_is_not_fire(self):
        self.bad(table(("", "f", "", "o")))
        self.bad(table(("a", "f", "a", "o")))
        self.bad(table(("", "g", "", "a"), ("a", "f", "a", "g")))
        self.good(table(("f", "g", "f", "a")))
        self.good(table(("f", "o", "f", "f")))

    def test_own_quiet_between_the_quiet_and_ends(self):
        for left in ("", "o"):
            for right in ("", "o"):
                self.bad(table((left, "o", right, "a")))
                self.bad(table((left, "o", right, "f")))
                self.good(table((left, "g", right, "a")))
                self.good(table((left, "a", right, "o")))
        for left, right in (("", "g"), ("g", ""), ("o", "g"), ("g", "o"), ("g", "g"), ("f", "o"), ("", "a")):
            self.good(table((left, "o", right, "a")))

    def test_names_beyond_the_three_are_free(self):
        self.good(table(("x", "y", "z", "v")))
        self.good(table(("start", "quiet", "fire", "abcdefgh")))

    def test_more_than_400_rows(self):
        letters = "abcdehij"
        rows = [(left, own, right, "z") for left in letters for own in letters for right in letters]
        self.assertGreater(len(rows), 400)
        self.good(table(*rows))
        self.bad(table(*rows[::-1]))
        self.bad(table(*(rows + [rows[-1]])))

    def test_of_anything(self):
        for thing in anythings():
            self.bad(thing)

    def test_nothing_handed_in_is_changed(self):
        rows = [["", "g", "", "a"]]
        thing = ["table", "o", "g", "f", rows]
        is_table(thing)
        self.assertEqual(thing, ["table", "o", "g", "f", [["", "g", "", "a"]]])


class States(unittest.TestCase):
    def test_the_three_names_alone(self):
        self.assertEqual(states_of(BARE), ("fire", "quiet", "start"))

    def test_all_names_of_the_rows_once_and_rising_without_the_end(self):
        told = states_of(table(("", "g", "zz", "a"), ("b", "g", "", "f"), ("c", "d", "e", "o"), ("c", "dd", "e", "h")))
        self.assertEqual(told, ("a", "b", "c", "d", "dd", "e", "f", "g", "h", "o", "zz"))
        self.assertIsInstance(told, tuple)

    def test_the_house(self):
        self.assertEqual(
            states_of(house("g")),
            ("f", "g", "ga", "gb", "h", "k", "l", "la", "lb", "lc", "m", "o", "p", "r", "ra", "rb", "rc", "w", "wa",
             "wb"),
        )

    def test_told_again(self):
        self.assertEqual(states_of(house("w")), states_of(house("w")))

    def test_no_machine_of_what_is_no_table(self):
        for thing in anythings() + ["a", "table", table(("", "f", "", "o"))]:
            with self.assertRaises(NoMachine, msg=brief(thing)):
                states_of(thing)

    def test_no_machine_of_another_machine(self):
        for thing in (("mirrored", BARE), ("later", 0, BARE), ("slowed", 1, BARE), ("both", BARE, BARE),
                      ("either", BARE, BARE)):
            with self.assertRaises(NoMachine, msg=brief(thing)):
                states_of(thing)
