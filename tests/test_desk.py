"""The desk (points 3 h and 34)."""

import unittest

from firetogether.beats import row_beat
from firetogether.desk import Desk
from firetogether.errors import FireError, NoKept, NoLine
from firetogether.hastes import haste
from firetogether.judging import judged
from firetogether.names import names_for
from firetogether.nearness import bar
from firetogether.posts import posts
from firetogether.rings import ring_first
from firetogether.rows import row_first, row_to
from firetogether.seen import seen
from firetogether.showing import show_machine, show_row
from firetogether.told import told_row
from tests.helpers import BARE, BIGS, LEANING, anythings, brief, chance_machines, counting, house

MACHINES = {
    "row": house("g"), "some": house("m"), "ring": house("w"), "bare": BARE, "leaning": LEANING, "hasty": counting(5),
    "later": ("later", 3, house("g")), "same": ("later", 0, ("slowed", 1, house("g"))),
    "put": ("both", ("slowed", 2, house("m")), ("mirrored", house("m"))),
}
SIXTY = "9" * 60
SIXTY_ONE = "1" + "0" * 60

# A good line of each kind, with the places of its numbers and, for each, what may stand there and what may not.
LINES = {
    "first row 9 4 50": {2: (["5", "30"], ["0", "4", "31"]), 3: (["0", "8"], ["9", "30"]), 4: (["0", "200"], ["201"])},
    "ring row 9 4 50": {2: (["5", "30"], ["0", "2", "4", "31"]), 3: (["0", "8"], ["9"]), 4: (["0", "200"], ["201"])},
    "ring row 3 0 50": {2: (["3"], ["2", "1", "0"]), 3: (["0", "2"], ["3"])},
    "row row 9 4 50": {2: (["5", "30"], ["0", "4", "31"]), 3: (["0", "8"], ["9"]), 4: (["0", "200"], ["201"])},
    "judge row 9 50": {2: (["1", "30"], ["0", "31"]), 3: (["0", "200"], ["201"])},
    "haste row 9 4": {2: (["5", "30"], ["0", "4", "31"]), 3: (["0", "8"], ["9"])},
    "told row 9 4": {2: (["5", "31", SIXTY], ["0", "4", SIXTY_ONE]), 3: (["0", "8"], ["9", SIXTY, SIXTY_ONE])},
    f"told row {SIXTY} {'8' * 60}": {2: (["9" + "0" * 59], ["0", SIXTY_ONE]), 3: (["0"], [SIXTY, SIXTY_ONE])},
    "beat 9": {1: (["1", "31", SIXTY], ["0", SIXTY_ONE])},
    "bar 9 4": {1: (["5", "31", SIXTY], ["0", "4", SIXTY_ONE]), 2: (["0", "8"], ["9", SIXTY, SIXTY_ONE])},
    "seen 9 4 50": {1: (["5", SIXTY], ["0", "4", SIXTY_ONE]), 2: (["0", "8"], ["9"]), 3: (["0", "201", SIXTY], [SIXTY_ONE])},
    f"seen {SIXTY} {'8' * 60} 7": {2: (["0", "9" * 59], [SIXTY, SIXTY_ONE]), 3: (["0", SIXTY], [SIXTY_ONE])},
    "posts 9 50": {1: (["1", SIXTY], ["0", SIXTY_ONE]), 2: (["0", "201", SIXTY], [SIXTY_ONE])},
}
NO_NUMBERS = ["", "-1", "+1", "00", "01", "007", "1.0", "1e0", "a", "x", "N", "one", "0x1", "1_0", " 1", "\u0661", "\u00b2", "4\n", "-",
              ".", "(1)", "1,", "True", "None", SIXTY_ONE, "9" * 5000, "0" * 5000, "1" * 4301, "\t1", "%"]
NO_NAMES = ["", "A", "Row", "rOw", "abcdefghi", "ro w", "row1", "1", "row.", "-", ".", "_", "r-w", "\u00e9", "row\n", "\trow"]
WITHOUT_NUMBERS = ["names", "show row", "plays row", "drop row"]


def a_desk():
    desk = Desk()
    for name, machine in MACHINES.items():
        desk.say(f"keep {name} {show_machine(machine)}")
    return desk


def all_kept(desk):
    names = desk.say("names")
    return [] if names == "-" else [(name, desk.say("show " + name)) for name in names.split(" ")]


class Told(unittest.TestCase):
    def tells(self, desk, line, text):
        told = desk.say(line)
        self.assertIsInstance(told, str)
        self.assertEqual(told, text, line)
        if not line.startswith("drop"):
            self.assertEqual(desk.say(line), text)

    def test_keep_drop_names_show(self):
        desk = Desk()
        self.tells(desk, "names", "-")
        self.tells(desk, "keep b row", "kept")
        self.tells(desk, "names", "b")
        self.tells(desk, "keep abcdefgh later 3 table o g f - g - f .", "kept")
        self.tells(desk, "keep a both row mirrored anywhere", "kept")
        self.tells(desk, "names", "a abcdefgh b")
        self.tells(desk, "show b", "row")
        self.tells(desk, "show abcdefgh", "later 3 table o g f - g - f .")
        self.tells(desk, "show a", "both row mirrored anywhere")
        self.tells(desk, "drop b", "dropped")
        self.tells(desk, "names", "a abcdefgh")
        self.tells(desk, "drop a", "dropped")
        self.tells(desk, "drop abcdefgh", "dropped")
        self.tells(desk, "names", "-")
        for line in ("drop a", "show a"):
            with self.assertRaises(NoKept):
                desk.say(line)

    def test_a_name_kept_anew(self):
        desk = Desk()
        self.tells(desk, "keep a row", "kept")
        self.tells(desk, "first a 9 0 99", "all 22")
        self.tells(desk, "keep a later 5 row", "kept")
        self.tells(desk, "names", "a")
        self.tells(desk, "show a", "later 5 row")
        self.tells(desk, "first a 9 0 99", "all 27")
        self.tells(desk, "drop a", "dropped")
        self.tells(desk, "keep a round", "kept")
        self.tells(desk, "show a", "round")

    def test_names_that_are_words_too(self):
        desk = Desk()
        for name in ("keep", "names", "row", "table", "later", "drop"):
            self.tells(desk, f"keep {name} row", "kept")
        self.tells(desk, "names", "drop keep later names row table")
        self.tells(desk, "row row 3 0 2", "gb o h")
        self.tells(desk, "show names", "row")
        self.tells(desk, "plays keep", "yes")
        self.tells(desk, "drop drop", "dropped")
        self.tells(desk, "drop names", "dropped")
        self.tells(desk, "names", "keep later row table")

    def test_word_for_word(self):
        desk = a_desk()
        for line, text in (
            ("names", "bare hasty later leaning put ring row same some"), ("show row", "row"),
            ("first row 9 0 22", "all 22"), ("first row 9 0 21", "late 21"), ("first leaning 3 0 9", "some 1"),
            ("first bare 3 0 9", "never 1"), ("ring ring 8 5 99", "all 22"), ("ring ring 3 0 0", "late 0"),
            ("row row 3 0 0", "g o o"), ("row row 3 0 4", "f f f"), ("row later 2 0 2", "(f 0) (f 0)"),
            ("judge row 5 50", "right 1 2 4 6 10"), ("judge row 1 1", "right 1"), ("judge row 5 9", "wrong 5 late 9"),
            ("judge leaning 5 9", "wrong 1 never 1"), ("haste hasty 4 0", "5 7 0"), ("haste hasty 5 3", "5 8 6"),
            ("haste row 9 0", "none"), ("plays row", "yes"), ("plays same", "yes"), ("plays later", "no"),
            ("plays bare", "no"), ("told row 9 0", "22"), ("told row 9 1", "none"), ("told some 9 3", "26"),
            ("told ring 9 0", "none"), ("beat 1", "1"), ("beat 2", "2"), ("beat 9", "22"), ("bar 9 0", "16"),
            ("bar 9 3", "13"), ("seen 5 2 8", "gb"), ("seen 1 0 0", "g"), ("seen 1 0 1", "f"), ("posts 9 12", "3"),
            ("posts 1 0", "1"),
        ):
            self.tells(desk, line, text)

    def test_as_the_functions_tell(self):
        desk = a_desk()
        for name, machine in MACHINES.items():
            self.tells(desk, f"show {name}", show_machine(machine))
            self.tells(desk, f"plays {name}", "no" if names_for(machine) is None else "yes")
            for most, late in ((1, 0), (3, 60), (6, 60), (30, 12)):
                found = judged(machine, most, late)
                words = ("right",) + found[1] if found[0] == "right" else found
                self.tells(desk, f"judge {name} {most} {late}", " ".join(map(str, words)))
            for n, k, late in ((1, 0, 200), (2, 1, 9), (6, 0, 50), (6, 3, 200), (30, 29, 20)):
                self.tells(desk, f"first {name} {n} {k} {late}", "{} {}".format(*row_first(machine, n, k, late)))
                self.tells(desk, f"row {name} {n} {k} {late}", show_row(row_to(machine, n, k, late)[-1]))
                if n > 2:
                    self.tells(desk, f"ring {name} {n} {k} {late}", "{} {}".format(*ring_first(machine, n, k, late)))
                found = haste(machine, n, k)
                self.tells(desk, f"haste {name} {n} {k}", "none" if found is None else " ".join(map(str, found)))
            for n in (1, 9, 31, 10 ** 60 - 1):
                for k in {0, n // 2, n - 1}:
                    beat = told_row(machine, n, k)
                    self.tells(desk, f"told {name} {n} {k}", "none" if beat is None else str(beat))

    def test_numbers_of_any_size(self):
        desk = Desk()
        for n in [1, 2, 3, 31, 10 ** 60 - 1] + [big for big in BIGS if big < 10 ** 60]:
            self.tells(desk, f"beat {n}", str(row_beat(n)))
            for t in (0, 1, n // 3, n, 2 * n // 3, 10 ** 60 - 1):
                self.tells(desk, f"posts {n} {t}", str(posts(n, t)))
                for x in {0, n // 7, n - 1}:
                    self.tells(desk, f"seen {n} {x} {t}", seen(n, x, t))
                    self.tells(desk, f"bar {n} {x}", str(bar(n, x)))

    def test_machines_made_by_chance(self):
        desk = Desk()
        for machine in chance_machines(40, 4, 341):
            text = show_machine(machine)
            self.tells(desk, "keep it " + text, "kept")
            self.tells(desk, "show it", text)
            self.tells(desk, "row it 5 2 6", show_row(row_to(machine, 5, 2, 6)[6]))


class Refused(unittest.TestCase):
    def setUp(self):
        self.desk = a_desk()
        self.kept = all_kept(self.desk)

    def refused(self, line):
        """Refused, and nothing is changed by it; so it is also where no machine is kept."""
        with self.assertRaises(NoLine, msg=brief(line)):
            self.desk.say(line)
        with self.assertRaises(NoLine, msg=brief(line)):
            Desk().say(line)

    def tearDown(self):
        self.assertEqual(all_kept(self.desk), self.kept)

    def test_numbers_at_their_bounds_and_beyond(self):
        for line, places in LINES.items():
            self.desk.say(line)
            words = line.split(" ")
            for at, (good, bad) in places.items():
                for word in good:
                    self.assertIsInstance(self.desk.say(" ".join(words[:at] + [word] + words[at + 1:])), str)
                for word in bad + NO_NUMBERS:
                    self.refused(" ".join(words[:at] + [word] + words[at + 1:]))

    def test_names(self):
        for line in list(LINES) + WITHOUT_NUMBERS:
            words = line.split(" ")
            if len(words) > 1 and words[1] == "row":
                for name in NO_NAMES:
                    self.refused(" ".join(words[:1] + [name] + words[2:]))
        for name in NO_NAMES:
            self.refused(f"keep {name} row")

    def test_words_left_out_put_in_exchanged(self):
        for line in list(LINES) + WITHOUT_NUMBERS:
            words = line.split(" ")
            for at in range(len(words)):
                self.refused(" ".join(words[:at] + words[at + 1:]))
            for at in range(len(words) + 1):
                for more in ("1", "x", "", "names", "rows"):
                    self.refused(" ".join(words[:at] + [more] + words[at:]))
            if len(words) > 2:
                self.refused(" ".join([words[0], words[2], words[1]] + words[3:]) if words[1] == "row" else "x " + line)
                self.refused(" ".join(words[::-1]))

    def test_blanks_letters_and_line_feeds(self):
        for line in list(LINES) + WITHOUT_NUMBERS + ["keep a row", "keep a later 3 table o g f - g - f ."]:
            for other in (" " + line, line + " ", line + "\n", "\n" + line, line + "\n" + line, line + "\r", line + ".",
                          line.upper(), line.capitalize(), line.replace(" ", "  ", 1) if " " in line else line + "  ",
                          line.replace(" ", "\t", 1) if " " in line else "\t" + line, line + "\x00", line + "%",
                          line.replace(" ", "\n", 1) if " " in line else line + " \n", line + ";", line + "\u00a0"):
                self.refused(other)

    def test_keep(self):
        for text in ("", " ", "rows", "Row", "row row", "later 61 row", "slowed 0 row", "later 01 row", "row ", " row",
                     "table o g f", "table o o f .", "mirrored mirrored mirrored mirrored row", "mirrored " * 500 + "row",
                     "table o g f g o o f g o - f .", "keep a row", "row\n", show_machine(house("g")) + " .", "some",
                     " ".join(["table o g f"] + [name or "-" for row in house("g")[4] for name in row] + ["."])):
            self.refused("keep row " + text)
            self.refused("keep new " + text)
        for line in ("keep", "keep ", "keep a", "keep row", "keep row row row", "keep  row", "Keep a row", "keeps a row"):
            self.refused(line)

    def test_other_words(self):
        for line in ("", " ", "\n", "-", "x", "row", "first", "ring", "judge", "haste", "plays", "told", "beat", "bar", "seen",
                     "posts", "show", "drop", "name", "names row", "names 1", "quit", "help", "forget row", "draw row 3 0 2",
                     "rows row 3 0 2", "fires row", "first row 3 0 2 row", "told_row row 9 0", "mends row 3 9", "x" * 5600,
                     "names " * 900, "beat" + " 1" * 2000):
            self.refused(line)

    def test_things_of_any_kind(self):
        for thing in anythings() + [b"names", ["names"], ("names",), {"names": 1}, ("show", "row")]:
            self.refused(thing)

    def test_then_no_kept(self):
        for desk in (self.desk, Desk()):
            for name in ("nobody", "abcdefgh", "x"):
                for line in list(LINES) + WITHOUT_NUMBERS:
                    words = line.split(" ")
                    if len(words) > 1 and words[1] == "row":
                        with self.assertRaises(NoKept, msg=line):
                            desk.say(" ".join(words[:1] + [name] + words[2:]))

    def test_no_line_ahead_of_no_kept(self):
        for line, places in LINES.items():
            words = line.split(" ")
            if words[1] == "row":
                for at, (good, bad) in places.items():
                    for word in bad + ["01", "x"]:
                        self.refused(" ".join([words[0], "nobody"] + words[2:at] + [word] + words[at + 1:]))
        for line in ("show nobody x", "drop nobody ", "plays nobody 1", "told nobody", "first nobody 3 0"):
            self.refused(line)

    def test_refusals_of_the_programs_own(self):
        for line in ("x", "show nobody"):
            with self.assertRaises(FireError):
                self.desk.say(line)

    def test_what_is_refused_changes_nothing(self):
        desk = Desk()
        desk.say("keep a row")
        for line in ("keep a rows", "keep b rows", "keep a", "drop b", "drop a b", "drop A", "keep a row ", "drop  a", 5, None):
            with self.assertRaises((NoLine, NoKept)):
                desk.say(line)
            self.assertEqual(all_kept(desk), [("a", "row")])


class Desks(unittest.TestCase):
    def test_two_desks_keep_what_was_told_to_each_alone(self):
        one, other = Desk(), Desk()
        one.say("keep a row")
        self.assertEqual(other.say("names"), "-")
        other.say("keep a round")
        other.say("keep b anywhere")
        self.assertEqual(one.say("names"), "a")
        self.assertEqual(one.say("show a"), "row")
        self.assertEqual(other.say("show a"), "round")
        one.say("drop a")
        self.assertEqual(one.say("names"), "-")
        self.assertEqual(other.say("names"), "a b")
        self.assertEqual(Desk().say("names"), "-")
