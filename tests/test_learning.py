"""Tables learned from rows that are run (points 13 and 14)."""

import unittest

from firetogether.errors import NoMachine
from firetogether.learning import learned, states_met, windows
from firetogether.rows import row_first, row_to
from firetogether.tables import is_table
from tests.helpers import (
    BARE, BLINKING, LEANING, anythings, chance_machines, counting, house, ref_behind, ref_first, ref_fires, ref_quiet,
    ref_run, ref_start, rows_of,
)

SEVERAL_FIRE = [
    ("either", counting(3), counting(5)), ("slowed", 3, counting(3)), ("either", ("later", 1, counting(4)), counting(5)),
    ("either", LEANING, ("mirrored", LEANING)),
]


def ref_windows(machine, most, late):
    met = []
    for n in range(1, most + 1):
        t = ref_first(machine, n, 0, late, False)[1]
        for row in ref_run(machine, n, 0, t, False)[:t]:
            for x in range(n):
                left, right = row[x - 1] if x > 0 else None, row[x + 1] if x + 1 < n else None
                window = (left, row[x], right, ref_behind(machine, left, row[x], right))
                if window not in met:
                    met.append(window)
    return met


def ref_states_met(machine, most, late):
    met = []
    for n in range(1, most + 1):
        t = ref_first(machine, n, 0, late, False)[1]
        for row in ref_run(machine, n, 0, t, False):
            met.extend(state for at, state in enumerate(row) if state not in met and state not in row[:at])
    return met


def names_by_order(many):
    letters = "abcdefghijklmnopqrstuvwxyz"
    return (list(letters) + [one + two for one in letters for two in letters])[:many]


class Windows(unittest.TestCase):
    def test_in_the_order_in_which_they_are_met(self):
        self.assertEqual(windows(house("g"), 3, 60), [
            (None, "g", None, "f"),
            (None, "g", "o", "ga"), ("g", "o", None, "h"),
            (None, "ga", "h", "f"), ("ga", "h", None, "f"),
            ("g", "o", "o", "r"), ("o", "o", None, "o"),
            (None, "ga", "r", "gb"), ("ga", "r", "o", "o"), ("r", "o", None, "h"),
            (None, "gb", "o", "p"), ("gb", "o", "h", "g"), ("o", "h", None, "p"),
            (None, "p", "g", "f"), ("p", "g", "p", "f"), ("g", "p", None, "f")])

    def test_each_once(self):
        told = windows(house("g"), 12, 60)
        self.assertEqual(len(told), len(set(told)))
        self.assertEqual(windows(BLINKING, 1, 60), [(None, "g", None, "b"), (None, "b", None, "g")])

    def test_only_below_the_beat_of_each_rows_first(self):
        self.assertEqual(windows(ONE_STEP, 1, 60), [(None, "g", None, "f")])
        self.assertEqual(windows(BARE, 1, 60), [(None, "start", None, "start")])
        self.assertEqual(windows(LEANING, 2, 60), [
            (None, "g", None, "g"), (None, "g", "o", "g"), ("g", "o", None, "f")])

    def test_up_to_late(self):
        self.assertEqual(windows(house("g"), 3, 0), [])
        self.assertEqual(windows(house("g"), 3, 1), [
            (None, "g", None, "f"), (None, "g", "o", "ga"), ("g", "o", None, "h"), ("g", "o", "o", "r"),
            ("o", "o", None, "o")])

    def test_as_the_document_tells(self):
        for machine in chance_machines(60, 3, 71) + SEVERAL_FIRE + [house("g"), counting(4), LEANING]:
            self.assertEqual(windows(machine, 4, 9), ref_windows(machine, 4, 9))

    def test_a_told_list_is_emptied_and_asked_for_again(self):
        told = windows(house("g"), 3, 60)
        self.assertIsInstance(told, list)
        self.assertTrue(all(isinstance(window, tuple) and len(window) == 4 for window in told))
        kept = list(told)
        told.clear()
        self.assertEqual(windows(house("g"), 3, 60), kept)


class StatesMet(unittest.TestCase):
    def test_in_the_order_in_which_they_are_met(self):
        self.assertEqual(states_met(house("g"), 3, 60), ["g", "f", "o", "ga", "h", "r", "gb", "p"])

    def test_at_the_beat_of_the_first_too(self):
        self.assertEqual(states_met(ONE_STEP, 1, 60), ["g", "f"])
        self.assertEqual(states_met(ONE_STEP, 1, 0), ["g"])
        self.assertEqual(states_met(house("g"), 2, 1), ["g", "f", "o", "ga", "h"])
        self.assertEqual(states_met(house("g"), 2, 0), ["g", "o"])

    def test_no_further(self):
        # Hand 0 fires first; what the others come to later on is not met.
        table = ("table", "o", "g", "f", rows_of("- g o f, f o - a"))
        self.assertEqual(states_met(table, 2, 60), ["g", "o", "f"])
        self.assertEqual(windows(table, 2, 60), [(None, "g", None, "g"), (None, "g", "o", "f"), ("g", "o", None, "o")])

    def test_as_the_document_tells(self):
        for machine in chance_machines(60, 3, 72) + SEVERAL_FIRE + [house("g"), counting(4), LEANING]:
            self.assertEqual(states_met(machine, 4, 9), ref_states_met(machine, 4, 9))

    def test_a_told_list_is_emptied_and_asked_for_again(self):
        told = states_met(house("g"), 3, 60)
        self.assertIsInstance(told, list)
        told.clear()
        self.assertEqual(states_met(house("g"), 3, 60), ["g", "f", "o", "ga", "h", "r", "gb", "p"])


class Learned(unittest.TestCase):
    def test_three_names_and_the_others_as_they_come(self):
        table, names = learned(house("g"), 3, 60)
        self.assertEqual(names, [
            ("g", "start"), ("f", "fire"), ("o", "quiet"), ("ga", "a"), ("h", "b"), ("r", "c"), ("gb", "d"), ("p", "e")])
        self.assertEqual(table, ("table", "quiet", "start", "fire", rows_of(
            "- start - fire, - start quiet a, start quiet - b, - a b fire, a b - fire, start quiet quiet c, - a c d,"
            "a c quiet quiet, c quiet - b, - d quiet e, d quiet b start, quiet b - e, - e start fire, e start e fire,"
            "start e - fire")))

    def test_kinds(self):
        told = learned(house("g"), 3, 60)
        self.assertIsInstance(told, tuple)
        self.assertEqual(len(told), 2)
        self.assertIsInstance(told[1], list)
        self.assertTrue(all(isinstance(pair, tuple) and len(pair) == 2 for pair in told[1]))
        self.assertIs(is_table(told[0]), True)

    def test_where_little_is_met(self):
        self.assertEqual(learned(BARE, 1, 60), (BARE, [("start", "start")]))
        self.assertEqual(learned(BARE, 2, 60), (BARE, [("start", "start"), ("quiet", "quiet")]))
        self.assertEqual(learned(house("g"), 3, 0), (BARE, [("g", "start"), ("o", "quiet")]))

    def test_names_behind_z(self):
        table, names = learned(("later", 60, counting(3)), 1, 200)
        others = [name for state, name in names if name not in ("quiet", "start", "fire")]
        self.assertEqual(others, names_by_order(62))
        self.assertEqual(others[25:28] + others[51:53], ["z", "aa", "ab", "az", "ba"])
        self.assertIs(is_table(table), True)
        self.assertEqual(row_first(table, 1, 0, 200), ("all", 63))

    def test_all_that_fire_are_called_fire(self):
        machine = ("either", LEANING, ("either", counting(1), ("later", 3, counting(1))))
        table, names = learned(machine, 4, 60)
        firing = [state for state, name in names if name == "fire"]
        self.assertGreater(len(firing), 1)
        for machine in SEVERAL_FIRE:
            for state, name in learned(machine, 7, 60)[1]:
                self.assertEqual(name == "fire", ref_fires(machine, state))

    def check_it_goes_as_the_machine(self, machine, most, late):
        table, names = learned(machine, most, late)
        self.assertIs(is_table(table), True)
        self.assertEqual(table[:4], ("table", "quiet", "start", "fire"))
        self.assertEqual(table[4], tuple(sorted(table[4])))
        self.assertEqual([state for state, name in names], ref_states_met(machine, most, late))
        name_of = dict(names)
        self.assertEqual(name_of.get(ref_quiet(machine), "quiet"), "quiet")
        self.assertEqual(name_of[ref_start(machine)], "start")
        others = [name for state, name in names if name not in ("quiet", "start", "fire")]
        self.assertEqual(others, names_by_order(len(others)))
        name_of[None] = ""
        needed = [tuple(name_of[state] for state in window) for window in ref_windows(machine, most, late)]
        self.assertEqual(table[4], tuple(sorted(row for row in set(needed) if row[1] != row[3])))
        for n in range(1, most + 1):
            word, t = ref_first(machine, n, 0, late, False)
            rows = ref_run(machine, n, 0, t, False)
            self.assertEqual(row_to(table, n, 0, t), [tuple(name_of[state] for state in row) for row in rows])
            if word in ("all", "some"):
                self.assertEqual(row_first(table, n, 0, late), (word, t))

    def test_it_goes_as_the_machine_by_names(self):
        for machine in chance_machines(80, 3, 73) + SEVERAL_FIRE + [counting(4), LEANING, BLINKING, BARE]:
            self.check_it_goes_as_the_machine(machine, 5, 9)

    def test_the_house(self):
        for machine in (house("g"), ("slowed", 2, house("g")), ("later", 3, house("g"))):
            self.check_it_goes_as_the_machine(machine, 7, 40)

    def test_a_told_list_is_emptied_and_asked_for_again(self):
        told = learned(house("g"), 3, 60)
        kept = list(told[1])
        told[1].clear()
        self.assertEqual(learned(house("g"), 3, 60), (told[0], kept))


ONE_STEP = ("table", "o", "g", "f", (("", "g", "", "f"),))


class Refused(unittest.TestCase):
    def test_no_machine_ahead_of_all_else(self):
        for thing in anythings() + ["a", ("later", 61, BARE)]:
            for most, late in ((3, 4), (None, "a"), (0, 0), (-1, -1), (True, [])):
                for asked in (windows, states_met, learned):
                    with self.assertRaises(NoMachine):
                        asked(thing, most, late)
