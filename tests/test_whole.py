"""What is promised over the whole program (points 2 and 3, and the interface)."""

import copy
import importlib
import inspect
import unittest

from tests.helpers import BARE, BLINKING, LEANING, anythings, brief, house

from firetogether.drawing import drawn
from firetogether.errors import NoMachine, NoTree, NoWords
from firetogether.folds import folded, shows_fold
from firetogether.hastes import haste, ring_haste, shows_haste
from firetogether.judging import alike, judged, ring_judged
from firetogether.learning import learned, states_met, windows
from firetogether.machines import Works, is_machine
from firetogether.mending import mends
from firetogether.names import names_for, plays, roles
from firetogether.reading import read_machine, read_row
from firetogether.ringnames import ring_names_for, ring_plays, ring_roles
from firetogether.rings import ring_first, ring_to
from firetogether.rows import open_row, row_first, row_to
from firetogether.showing import show_machine
from firetogether.tables import states_of
from firetogether.told import told_ring, told_row
from firetogether.treeruns import tree_to

# All names of the interface, with how many things each is handed.
INTERFACE = {
    "tables": {"is_name": 1, "is_table": 1, "states_of": 1},
    "machines": {"is_machine": 1, "Works": 1},
    "rows": {"row_to": 4, "row_first": 4, "open_row": 2},
    "rings": {"ring_to": 4, "ring_first": 4},
    "nearness": {"unlike_from": 3, "ring_unlike_from": 2, "bar": 2, "ring_bar": 1},
    "hastes": {"haste": 3, "ring_haste": 2, "shows_haste": 4},
    "judging": {"judged": 3, "ring_judged": 3, "alike": 4},
    "learning": {"windows": 3, "states_met": 3, "learned": 3},
    "folds": {"shows_fold": 3, "folded": 1},
    "house": {"house_rows": 0, "row_machine": 0, "anywhere_machine": 0, "ring_machine": 0},
    "beats": {"ones": 1, "row_beat": 1, "anywhere_beat": 2, "ring_beat": 1},
    "stretches": {"levels": 1, "stretch": 3, "shows_levels": 2},
    "strands": {"place_at": 2, "meet": 2},
    "waves": {"waves": 3},
    "posts": {"post_beat": 2, "posts": 2},
    "seen": {"seen": 3, "seen_anywhere": 4},
    "seenrings": {"seen_ring": 3},
    "trees": {"is_tree": 1, "tour": 2},
    "treeruns": {"tree_to": 4, "tree_beat": 1, "seen_tree": 4},
    "names": {"roles": 0, "plays": 2, "names_for": 1},
    "told": {"told_row": 3, "told_ring": 2},
    "showing": {"show_machine": 1, "show_row": 1},
    "reading": {"read_machine": 1, "read_row": 2},
    "drawing": {"drawn": 4},
    "desk": {"Desk": 0},
    "marks": {"marked": 2, "marker": 1},
    "mending": {"mends": 3},
    "ringnames": {"ring_roles": 0, "ring_plays": 2, "ring_names_for": 1},
    "errors": {},
}

GOOD = house("g")
# Each function and class that is handed a machine: with the machine at the place of the None, and what else is good.
HANDED_A_MACHINE = [
    (states_of, (None,)), (Works, (None,)), (row_to, (None, 3, 0, 2)), (row_first, (None, 3, 0, 9)), (open_row, (None, 2)),
    (ring_to, (None, 3, 0, 2)), (ring_first, (None, 3, 0, 9)), (haste, (None, 3, 0)), (ring_haste, (None, 3)),
    (shows_haste, (None, 3, 0, (1, 4, 0))), (judged, (None, 2, 9)), (ring_judged, (None, 3, 9)),
    (alike, (None, GOOD, 2, 5)), (alike, (GOOD, None, 2, 5)), (windows, (None, 2, 9)), (states_met, (None, 2, 9)),
    (learned, (None, 2, 9)), (shows_fold, (None, GOOD, ())), (shows_fold, (GOOD, None, ())), (folded, (None,)),
    (tree_to, (None, (0, 0), 0, 2)), (plays, (None, roles())), (names_for, (None,)), (told_row, (None, 3, 0)),
    (told_ring, (None, 3)), (show_machine, (None,)), (read_row, (None, "o")), (drawn, (None, 3, 0, 2)),
    (mends, (None, 2, 9)), (ring_plays, (None, ring_roles())), (ring_names_for, (None,)),
]
OF_TABLES = (states_of, shows_fold, folded, mends)
TOO_DEEP = ("mirrored", ("mirrored", ("mirrored", ("mirrored", GOOD))))
NO_MACHINES = [TOO_DEEP, ("later", 61, GOOD), ("slowed", 0, GOOD), ("both", GOOD), GOOD[:4], GOOD[:4] + (GOOD[4][::-1],)]


def handed(things, machine):
    return tuple(machine if thing is None else thing for thing in things)


class Interface(unittest.TestCase):
    def test_all_is_there_and_takes_as_many_things(self):
        for module, names in INTERFACE.items():
            found = importlib.import_module("firetogether." + module)
            for name, many in names.items():
                thing = getattr(found, name)
                if inspect.isclass(thing):
                    self.assertEqual(len(inspect.signature(thing.__init__).parameters), many + 1, name)
                else:
                    self.assertEqual(len(inspect.signature(thing).parameters), many, name)

    def test_the_objects(self):
        works = importlib.import_module("firetogether.machines").Works(GOOD)
        for name, many in (("quiet", 0), ("start", 0), ("fires", 1), ("behind", 3), ("holds", 1)):
            self.assertEqual(len(inspect.signature(getattr(works, name)).parameters), many)
        desk = importlib.import_module("firetogether.desk").Desk()
        self.assertEqual(len(inspect.signature(desk.say).parameters), 1)


class NoMachineAheadOfAllElse(unittest.TestCase):
    def test_each_by_itself_takes_a_machine(self):
        for function, things in HANDED_A_MACHINE:
            function(*handed(things, GOOD))
            if function not in OF_TABLES + (read_row,):
                function(*handed(things, ("later", 1, LEANING)))
        self.assertEqual(read_row(("later", 1, LEANING), "(o 1)"), (("o", 1),))

    def test_each_by_itself_refuses_what_is_none(self):
        for function, things in HANDED_A_MACHINE:
            for thing in anythings() + NO_MACHINES:
                self.assertIs(is_machine(thing), False)
                with self.assertRaises(NoMachine, msg=(function.__name__, brief(thing))) as caught:
                    function(*handed(things, thing))
                self.assertEqual(caught.exception.__class__, NoMachine)

    def test_those_of_tables_refuse_other_machines(self):
        for function, things in HANDED_A_MACHINE:
            if function in OF_TABLES:
                for machine in (("mirrored", GOOD), ("later", 0, GOOD), ("both", GOOD, GOOD)):
                    with self.assertRaises(NoMachine):
                        function(*handed(things, machine))

    def test_ahead_of_what_else_is_wrong(self):
        for function, things in HANDED_A_MACHINE:
            for other in (None, (), [], "x", -5, {}, TOO_DEEP):
                for thing in anythings()[:12] + NO_MACHINES:
                    wrong = tuple(thing if one is None else other if one != GOOD else one for one in things)
                    with self.assertRaises(NoMachine, msg=function.__name__):
                        function(*wrong)

    def test_two_machines_in_order(self):
        for thing in anythings():
            for function, things in ((alike, (2, 5)), (shows_fold, ((),))):
                with self.assertRaises(NoMachine):
                    function(thing, None, *things)
                with self.assertRaises(NoMachine):
                    function(None, thing, *things)

    def test_then_the_others(self):
        with self.assertRaises(NoTree):
            tree_to(GOOD, (0,), 0, 1)
        with self.assertRaises(NoWords):
            read_row(GOOD, "z")


class NothingIsChangedOrKept(unittest.TestCase):
    def test_told_again_the_same(self):
        for function, things in HANDED_A_MACHINE:
            if function == Works:
                continue
            for machine in (GOOD, BLINKING, LEANING):
                asked = handed(things, machine)
                before = copy.deepcopy(asked)
                told = function(*asked)
                kept = copy.deepcopy(told)
                self.spoil(told)
                self.assertEqual(asked, before)
                self.assertEqual(repr(function(*asked)), repr(kept), function.__name__)

    def spoil(self, told):
        """Takes away all that stands in lists, for they are the asker's own."""
        if isinstance(told, tuple):
            for part in told:
                self.spoil(part)
        elif isinstance(told, list):
            told.clear()

    def test_kinds(self):
        for function, things in HANDED_A_MACHINE:
            if function != Works:
                self.plain(function(*handed(things, GOOD)))
        self.plain(read_machine("both row round"))

    def plain(self, told):
        """Tuples, lists, dicts, texts, whole numbers, truths and None, through and through; no kinds under these."""
        self.assertIn(told.__class__, (tuple, list, dict, str, int, bool, None.__class__))
        if isinstance(told, (tuple, list)):
            for part in told:
                self.plain(part)

    def test_truths(self):
        for function, things in HANDED_A_MACHINE:
            if function in (shows_haste, shows_fold, plays, ring_plays):
                for machine in (GOOD, BARE):
                    self.assertIsInstance(function(*handed(things, machine)), bool)
