"""How machines go on (points 5 and 6), and what their states are (point 29)."""

import random
import unittest

from firetogether.errors import NoMachine
from firetogether.machines import Works
from tests.helpers import (
    BARE, BLINKING, LEANING, anythings, brief, chance_machines, counting, house, ref_behind, ref_fires, ref_quiet,
    ref_start, ref_states, rows_of,
)

SMALL = ("table", "o", "g", "f", rows_of("- g o a, g o - a, a o o g, o g - f, a g a o, g a f o, - a - g"))


class OfATable(unittest.TestCase):
    def test_quiet_and_start(self):
        works = Works(("table", "calm", "go", "bang", ()))
        self.assertEqual((works.quiet(), works.start()), ("calm", "go"))

    def test_fire_alone_fires(self):
        works = Works(SMALL)
        self.assertEqual([works.fires(state) for state in "ogfa"], [False, False, True, False])
        self.assertIs(works.fires("f"), True)
        self.assertIs(works.fires("o"), False)

    def test_behind_comes_the_new_of_the_row_or_own(self):
        works = Works(SMALL)
        rows = {(left or None, own, right or None): new for left, own, right, new in SMALL[4]}
        for left in (None, "o", "g", "f", "a"):
            for own in "ogfa":
                for right in (None, "o", "g", "f", "a"):
                    self.assertEqual(works.behind(left, own, right), rows.get((left, own, right), own))

    def test_an_end_is_unlike_the_quiet_one(self):
        works = Works(LEANING)
        self.assertEqual(works.behind("g", "o", None), "f")
        self.assertEqual(works.behind("g", "o", "g"), "o")
        works = Works(("table", "o", "g", "f", (("", "g", "o", "a"), ("o", "g", "", "b"))))
        self.assertEqual(works.behind(None, "g", "o"), "a")
        self.assertEqual(works.behind("o", "g", None), "b")
        self.assertEqual(works.behind("o", "g", "o"), "g")
        self.assertEqual(works.behind(None, "g", None), "g")

    def test_the_quiet_and_the_firing_stay(self):
        works = Works(house("g"))
        for left in (None, "o"):
            for right in (None, "o"):
                self.assertEqual(works.behind(left, "o", right), "o")
        for left in (None, "o", "f", "g"):
            self.assertEqual(works.behind(left, "f", "p"), "f")


class OfMirrored(unittest.TestCase):
    def test_left_and_right_are_exchanged(self):
        works = Works(("mirrored", LEANING))
        self.assertEqual((works.quiet(), works.start()), ("o", "g"))
        self.assertEqual(works.behind("o", "o", "g"), "f")
        self.assertEqual(works.behind(None, "o", "g"), "f")
        self.assertEqual(works.behind("g", "o", "o"), "o")
        self.assertEqual(works.behind("g", "o", None), "o")
        self.assertIs(works.fires("f"), True)
        self.assertIs(works.fires("g"), False)

    def test_twice_is_as_it_was(self):
        works = Works(("mirrored", ("mirrored", LEANING)))
        self.assertEqual(works.behind("g", "o", None), "f")
        self.assertEqual(works.behind(None, "o", "g"), "o")


class OfLater(unittest.TestCase):
    def test_quiet_and_start_have_0(self):
        works = Works(("later", 3, SMALL))
        self.assertEqual((works.quiet(), works.start()), (("o", 0), ("g", 0)))

    def test_only_with_the_whole_count_it_fires(self):
        works = Works(("later", 2, SMALL))
        self.assertEqual([works.fires(("f", i)) for i in (0, 1, 2)], [False, False, True])
        self.assertEqual([works.fires(("g", i)) for i in (0, 1, 2)], [False, False, False])

    def test_states_go_on_as_in_the_machine(self):
        works = Works(("later", 2, SMALL))
        self.assertEqual(works.behind(None, ("g", 0), ("o", 0)), ("a", 0))
        self.assertEqual(works.behind(("g", 0), ("o", 0), None), ("a", 0))
        self.assertEqual(works.behind(("g", 2), ("o", 0), None), ("a", 0))
        self.assertEqual(works.behind(("o", 1), ("g", 2), None), ("f", 0))
        self.assertEqual(works.behind(("o", 0), ("o", 0), ("o", 0)), ("o", 0))

    def test_the_number_goes_up_where_own_fires_ahead_of_the_beat(self):
        works = Works(("later", 2, SMALL))
        self.assertEqual(works.behind(None, ("f", 0), None), ("f", 1))
        self.assertEqual(works.behind(("o", 0), ("f", 1), None), ("f", 2))
        self.assertEqual(works.behind(None, ("f", 2), ("f", 0)), ("f", 2))

    def test_the_number_is_0_where_own_does_not_fire(self):
        works = Works(("later", 2, SMALL))
        self.assertEqual(works.behind(None, ("a", 2), ("o", 0)), ("a", 0))
        self.assertEqual(works.behind(("f", 2), ("a", 1), ("f", 1)), ("a", 0))
        self.assertEqual(works.behind(None, ("o", 2), None), ("o", 0))

    def test_later_by_0(self):
        works = Works(("later", 0, SMALL))
        self.assertIs(works.fires(("f", 0)), True)
        self.assertEqual(works.behind(None, ("f", 0), None), ("f", 0))
        self.assertEqual(works.behind(("o", 0), ("g", 0), None), ("f", 0))

    def test_later_by_60(self):
        works = Works(("later", 60, SMALL))
        self.assertEqual(works.behind(None, ("f", 59), None), ("f", 60))
        self.assertEqual(works.behind(None, ("f", 60), None), ("f", 60))
        self.assertIs(works.fires(("f", 59)), False)
        self.assertIs(works.fires(("f", 60)), True)


class OfSlowed(unittest.TestCase):
    def setUp(self):
        self.works = Works(("slowed", 3, SMALL))

    def test_quiet_and_start_have_0(self):
        self.assertEqual((self.works.quiet(), self.works.start()), (("o", 0), ("g", 0)))

    def test_it_fires_with_any_number(self):
        self.assertEqual([self.works.fires(("f", p)) for p in (0, 1, 2)], [True, True, True])
        self.assertEqual([self.works.fires(("g", p)) for p in (0, 1, 2)], [False, False, False])

    def test_all_quiet_stays(self):
        quiet = ("o", 0)
        for left in (None, quiet):
            for right in (None, quiet):
                self.assertEqual(self.works.behind(left, quiet, right), quiet)

    def test_a_quiet_one_waits(self):
        self.assertEqual(self.works.behind(("g", 0), ("o", 0), None), ("o", 0))
        self.assertEqual(self.works.behind(("g", 1), ("o", 0), None), ("o", 0))
        self.assertEqual(self.works.behind(("g", 2), ("o", 0), None), ("a", 0))

    def test_another_one_counts_and_then_steps(self):
        self.assertEqual(self.works.behind(None, ("g", 0), ("o", 0)), ("g", 1))
        self.assertEqual(self.works.behind(None, ("g", 1), ("o", 0)), ("g", 2))
        self.assertEqual(self.works.behind(None, ("g", 2), ("o", 0)), ("a", 0))

    def test_unlike_numbers_side_by_side(self):
        behind = self.works.behind
        # The left one's number goes ahead of the own one's, and that ahead of the right one's.
        self.assertEqual(behind(("a", 0), ("g", 1), ("a", 2)), ("g", 1))
        self.assertEqual(behind(("a", 1), ("g", 0), ("a", 2)), ("g", 2))
        self.assertEqual(behind(("a", 2), ("g", 0), ("a", 1)), ("o", 0))
        self.assertEqual(behind(("o", 0), ("g", 1), ("a", 2)), ("g", 2))
        self.assertEqual(behind(None, ("g", 0), ("a", 2)), ("g", 1))
        self.assertEqual(behind(("o", 0), ("g", 2), None), ("f", 0))
        self.assertEqual(behind(("o", 0), ("o", 0), ("a", 1)), ("o", 0))
        self.assertEqual(behind(("a", 0), ("o", 0), ("a", 2)), ("o", 0))

    def test_the_right_one_counts_where_the_others_are_quiet_or_ends(self):
        works = Works(("slowed", 2, ("table", "o", "g", "f", (("", "o", "g", "a"), ("o", "o", "g", "b")))))
        self.assertEqual(works.behind(None, ("o", 0), ("g", 1)), ("a", 0))
        self.assertEqual(works.behind(("o", 0), ("o", 0), ("g", 1)), ("b", 0))
        self.assertEqual(works.behind(("o", 0), ("o", 0), ("g", 0)), ("o", 0))

    def test_the_quiet_state_with_a_number_above_0_is_not_the_quiet_one(self):
        behind = self.works.behind
        self.assertEqual(behind(None, ("o", 1), None), ("o", 2))
        self.assertEqual(behind(None, ("o", 2), None), ("o", 0))
        self.assertEqual(behind(("o", 1), ("g", 0), None), ("g", 2))
        self.assertEqual(behind(("o", 2), ("g", 0), None), ("f", 0))
        self.assertEqual(behind(("o", 1), ("o", 0), None), ("o", 0))
        self.assertEqual(behind(("o", 0), ("o", 0), ("o", 1)), ("o", 0))
        self.assertEqual(behind(("a", 0), ("o", 2), ("o", 0)), ("o", 1))
        self.assertEqual(behind(("a", 2), ("o", 1), ("o", 0)), ("g", 0))

    def test_slowed_by_1_goes_as_the_machine(self):
        works = Works(("slowed", 1, SMALL))
        self.assertEqual(works.behind(None, ("g", 0), ("o", 0)), ("a", 0))
        self.assertEqual(works.behind(("g", 0), ("o", 0), None), ("a", 0))
        self.assertEqual(works.behind(None, ("o", 0), None), ("o", 0))

    def test_slowed_by_60(self):
        works = Works(("slowed", 60, SMALL))
        self.assertEqual(works.behind(None, ("g", 58), ("o", 0)), ("g", 59))
        self.assertEqual(works.behind(None, ("g", 59), ("o", 0)), ("a", 0))
        self.assertEqual(works.behind(("g", 58), ("o", 0), None), ("o", 0))
        self.assertEqual(works.behind(("g", 59), ("o", 0), None), ("a", 0))


class OfBothAndEither(unittest.TestCase):
    def test_quiet_and_start(self):
        for word in ("both", "either"):
            works = Works((word, SMALL, BARE))
            self.assertEqual((works.quiet(), works.start()), (("o", "quiet"), ("g", "start")))

    def test_each_goes_on_by_itself(self):
        for word in ("both", "either"):
            works = Works((word, SMALL, ("mirrored", LEANING)))
            self.assertEqual(works.behind(None, ("g", "o"), ("o", "g")), ("a", "f"))
            self.assertEqual(works.behind(("g", "g"), ("o", "o"), None), ("a", "o"))
            self.assertEqual(works.behind(("o", "f"), ("g", "o"), None), ("f", "o"))
            self.assertEqual(works.behind(None, ("a", "g"), None), ("g", "g"))

    def test_when_they_fire(self):
        states = [("f", "fire"), ("f", "start"), ("o", "fire"), ("o", "quiet")]
        works = Works(("both", SMALL, BARE))
        self.assertEqual([works.fires(state) for state in states], [True, False, False, False])
        works = Works(("either", SMALL, BARE))
        self.assertEqual([works.fires(state) for state in states], [True, True, True, False])


class OfMachinesWithinMachines(unittest.TestCase):
    def test_as_the_document_tells(self):
        rng = random.Random(3)
        machines = chance_machines(120, 4, 11) + [
            ("later", 60, ("slowed", 60, ("mirrored", SMALL))), ("slowed", 2, ("slowed", 3, ("later", 0, SMALL))),
            ("both", ("both", SMALL, LEANING), ("either", ("later", 1, SMALL), ("slowed", 2, BLINKING))),
        ]
        for machine in machines:
            works = Works(machine)
            states = ref_states(machine)
            self.assertEqual(works.quiet(), ref_quiet(machine))
            self.assertEqual(works.start(), ref_start(machine))
            for turn in range(150):
                left = rng.choice([None, ref_quiet(machine), rng.choice(states)])
                right = rng.choice([None, ref_quiet(machine), rng.choice(states)])
                own = rng.choice([ref_quiet(machine), ref_start(machine), rng.choice(states), rng.choice(states)])
                told = works.behind(left, own, right)
                self.assertEqual(told, ref_behind(machine, left, own, right), (machine, left, own, right))
                self.assertIs(works.holds(told), True)
                self.assertIs(works.fires(own), ref_fires(machine, own))

    def test_all_of_a_small_one(self):
        machine = ("slowed", 3, ("later", 1, ("table", "o", "g", "f", rows_of("- g o f, g o - f, o g - o, g o f g"))))
        works = Works(machine)
        states = ref_states(machine)
        for left in [None] + states:
            for own in states:
                for right in [None] + states:
                    self.assertEqual(works.behind(left, own, right), ref_behind(machine, left, own, right))


class Holds(unittest.TestCase):
    def check(self, machine, good, bad):
        works = Works(machine)
        for thing in good:
            self.assertIs(works.holds(thing), True, brief((machine, thing)))
        for thing in list(bad) + [thing for thing in anythings()]:
            self.assertIs(works.holds(thing), False, brief((machine, thing)))

    def test_of_a_table(self):
        self.check(SMALL, "ogfa", ["b", "", "oo", ("o", 0), ("o",), ["o"], b"o", {"o": 1}, None, ("o", "g")])
        self.check(("mirrored", SMALL), "ogfa", ["b", "", ("o", 0), None])

    def test_names_that_stand_in_rows_only_left_or_right(self):
        self.check(("table", "o", "g", "f", (("x", "g", "y", "o"),)), ["x", "y", "o", "g", "f"], ["z", ""])

    def test_of_later(self):
        self.check(
            ("later", 2, SMALL), [("o", 0), ("g", 1), ("a", 2), ("f", 2), ("f", 0)],
            [("o", 3), ("o", -1), ("o", True), ("o", False), ("o", None), ("o", "0"), ("b", 0), ("", 0), ["o", 0],
             ("o",), ("o", 0, 0), "o", (0, "o"), (("o", 0), 0), ("o", (0,)), ("o", [0]), ([], 0), ({}, 0), ("o", {})],
        )
        self.check(("later", 0, SMALL), [("o", 0), ("f", 0)], [("o", 1), ("o", False), ("o", -1)])
        self.check(("later", 60, SMALL), [("o", 60)], [("o", 61)])

    def test_of_slowed(self):
        self.check(
            ("slowed", 3, SMALL), [("o", 0), ("o", 1), ("o", 2), ("f", 2)],
            [("o", 3), ("o", -1), ("o", True), ("o", False), ["o", 0], ("o",), ("o", 0, 0), "o", (0, "o"), ("b", 0)],
        )
        self.check(("slowed", 1, SMALL), [("o", 0)], [("o", 1), ("o", False)])
        self.check(("slowed", 60, SMALL), [("o", 59)], [("o", 60)])

    def test_of_both_and_either(self):
        for word in ("both", "either"):
            self.check(
                (word, SMALL, BARE), [("o", "quiet"), ("a", "fire"), ("f", "start")],
                [("quiet", "o"), ("o", "o"), ("quiet", "quiet"), ("o",), ("o", "quiet", "quiet"), ["o", "quiet"],
                 ("o", 0), ("o", None), (None, "quiet"), "o", ("", "quiet"), ([], "quiet"), ("o", []), ("o", ("quiet",))],
            )

    def test_of_machines_within_machines(self):
        machine = ("both", ("later", 1, ("slowed", 2, SMALL)), ("mirrored", LEANING))
        self.check(
            machine, [((("o", 1), 0), "g"), ((("f", 0), 1), "f")],
            [((("o", 2), 0), "g"), ((("o", 1), 2), "g"), (("o", 1), "g"), ((("o", 1), 0), "x"), ((("o", True), 0), "g"),
             ((("o", 1), True), "g"), ((["o", 1], 0), "g"), ("g", (("o", 1), 0)), (((("o", 1), 0), 0), "g")],
        )

    def test_all_states(self):
        for machine in chance_machines(40, 3, 7):
            works = Works(machine)
            for state in ref_states(machine)[:200]:
                self.assertIs(works.holds(state), True)


class ByTurns(unittest.TestCase):
    def test_two_objects_asked_by_turns_tell_the_same_as_one_alone(self):
        one, other = ("slowed", 3, house("g")), ("slowed", 2, counting(4))
        def told(works, machine):
            quiet, start = ref_quiet(machine), ref_start(machine)
            return [works.behind(quiet, start, None), works.behind(None, start, quiet), works.behind(start, quiet, None),
                    works.fires(start), works.holds(start), works.quiet(), works.start()]
        alone = (told(Works(one), one), told(Works(other), other))
        first, second = Works(one), Works(other)
        for turn in range(3):
            self.assertEqual((told(first, one), told(second, other)), alone)
            self.assertEqual(told(Works(one), one), alone[0])

    def test_asking_changes_nothing(self):
        works = Works(("later", 2, SMALL))
        for turn in range(4):
            self.assertEqual(works.behind(None, ("f", 0), None), ("f", 1))
            self.assertEqual(works.start(), ("g", 0))


class Refused(unittest.TestCase):
    def test_no_machine(self):
        for thing in anythings() + ["a", ("later", 61, BARE), ("slowed", 0, BARE), ("later", True, BARE)]:
            with self.assertRaises(NoMachine, msg=brief(thing)):
                Works(thing)
