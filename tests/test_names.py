"""Papers of names (points 3 d, 29 and 30)."""

import unittest

from firetogether.errors import NoMachine
from firetogether.house import anywhere_machine, ring_machine, row_machine
from firetogether.learning import learned, windows
from firetogether.names import names_for, plays, roles
from firetogether.rows import row_to
from firetogether.seen import seen
from tests.helpers import (
    BARE, BLINKING, LEANING, anythings, brief, chance_machines, counting, exchanged, house, house_beat, ref_behind,
    ref_fires, ref_quiet, ref_run, ref_start, ref_states, renamed, without,
)

ROLES = ("o", "g", "ga", "gb", "p", "h", "r", "l", "ra", "rb", "rc", "la", "lb", "lc", "f")
ROW = house("g")
OTHER_NAMES = {role: "x" + role for role in ROLES}
OTHER = renamed(ROW, OTHER_NAMES)
# What is exchanged: to the right goes now what went to the left, by name alone.
SWAPPED = renamed(ROW, {"r": "l", "l": "r", "p": "h", "h": "p"})
# The windows of the rows of up to 20 hands leave two roles alike.
JOINED = renamed(("table", "o", "g", "f", tuple(sorted(
    tuple(name or "" for name in window) for window in windows(ROW, 20, 60) if window[1] != window[3]))), {"h": "ga"})


def alone(state):
    return state


def twice(state):
    return (state, state)


def with_0(state):
    return (state, 0)


# Machines that go as the house's, and the state for each role.
GOOD = [
    (ROW, alone),
    (OTHER, lambda role: "x" + role),
    (SWAPPED, lambda role: {"r": "l", "l": "r", "p": "h", "h": "p"}.get(role, role)),
    (JOINED, lambda role: "ga" if role == "h" else role),
    (("slowed", 1, ROW), with_0),
    (("later", 0, ROW), with_0),
    (("both", ROW, ROW), twice),
    (("either", ROW, ROW), twice),
    (("both", ROW, OTHER), lambda role: (role, "x" + role)),
    (("either", OTHER, ROW), lambda role: ("x" + role, role)),
    (("mirrored", ("mirrored", ROW)), alone),
    (("both", ("slowed", 1, ROW), ("later", 0, OTHER)), lambda role: ((role, 0), ("x" + role, 0))),
    (("either", ("later", 0, ("slowed", 1, ROW)), ROW), lambda role: (((role, 0), 0), role)),
    (("slowed", 1, ("both", ROW, ("later", 0, ROW))), lambda role: ((role, (role, 0)), 0)),
    (learned(ROW, 20, 60)[0], lambda role: dict(learned(ROW, 20, 60)[1])[role]),
]

# Machines that go otherwise.
OTHERWISE = [
    ("later", 1, ROW), ("later", 60, ROW), ("slowed", 2, ROW), ("slowed", 60, ROW), ("mirrored", ROW),
    house("m"), house("w"), BARE, LEANING, BLINKING, counting(3), ("both", ROW, BARE), ("either", ROW, LEANING),
    ("both", ROW, ("later", 1, ROW)), ("either", ROW, ("slowed", 2, ROW)), ("mirrored", ("later", 0, ROW)),
]


def ref_plays(machine, thing):
    """Whether the thing is a paper of names, by the words of the point."""
    states = ref_states(machine)
    if not isinstance(thing, tuple) or len(thing) != 15 or any(repr(state) not in map(repr, states) for state in thing):
        return False
    told = dict(zip(ROLES, thing))
    if told["o"] != ref_quiet(machine) or told["g"] != ref_start(machine):
        return False
    if [role for role in ROLES if ref_fires(machine, told[role])] != ["f"]:
        return False
    told[None] = None
    return all(ref_behind(machine, told[left], told[own], told[right]) == told[new]
               for left, own, right, new in windows(ROW, 20, 60))


def ref_names_for(machine):
    faces = {}
    for n in range(1, 21):
        beats = house_beat(n)
        for row, others in zip(ref_run(ROW, n, 0, beats, False), ref_run(machine, n, 0, beats, False)):
            for role, state in zip(row, others):
                faces.setdefault(role, set()).add(state)
    if any(len(states) > 1 for states in faces.values()):
        return None
    paper = tuple(next(iter(faces[role])) for role in ROLES)
    return paper if [ref_fires(machine, state) for state in paper] == [role == "f" for role in ROLES] else None


class Roles(unittest.TestCase):
    def test_word_for_word(self):
        self.assertEqual(roles(), ROLES)
        self.assertIsInstance(roles(), tuple)


class Plays(unittest.TestCase):
    def yes(self, machine, thing):
        self.assertIs(plays(machine, thing), True)

    def no(self, machine, thing):
        self.assertIs(plays(machine, thing), False, brief(thing))

    def test_the_house_itself(self):
        self.yes(row_machine(), roles())

    def test_what_goes_as_the_house(self):
        for machine, state_for in GOOD:
            self.yes(machine, tuple(state_for(role) for role in ROLES))

    def test_a_paper_of_one_machine_is_none_of_another(self):
        papers = [tuple(state_for(role) for role in ROLES) for machine, state_for in GOOD]
        for machine, state_for in GOOD[:7]:
            for paper in papers:
                self.assertIs(plays(machine, paper), ref_plays(machine, paper))

    def test_another_quiet_one(self):
        self.yes(ROW, ROLES)
        self.no(("table", "z", "g", "f", ROW[4]), ROLES)
        self.no(("table", "wa", "g", "f", ROW[4]), ROLES)

    def test_another_start(self):
        for machine in (anywhere_machine(), ring_machine(), ("table", "o", "z", "f", ROW[4])):
            self.no(machine, ROLES)

    def test_an_f_that_does_not_fire(self):
        # In the machine that fires one beat later all goes by these states, but (f, 0) fires not yet.
        self.no(("later", 1, ROW), tuple((role, 0) for role in ROLES))
        self.no(("table", "o", "g", "z", ROW[4]), ROLES)
        self.no(("both", ROW, ("later", 1, ROW)), tuple((role, (role, 0)) for role in ROLES))

    def test_a_role_that_fires_and_is_not_f(self):
        for at in range(14):
            self.no(ROW, ROLES[:at] + ("f",) + ROLES[at + 1:])
            paper = tuple((role, 0) for role in ROLES)
            self.no(("later", 0, ROW), paper[:at] + (("f", 0),) + paper[at + 1:])

    def test_each_role_by_another_state(self):
        for at in range(15):
            for state in ref_states(ROW):
                paper = ROLES[:at] + (state,) + ROLES[at + 1:]
                self.assertIs(plays(ROW, paper), state == ROLES[at], (at, state))

    def test_two_roles_exchanged(self):
        for at in range(15):
            for other in range(at):
                paper = list(ROLES)
                paper[at], paper[other] = paper[other], paper[at]
                self.no(ROW, tuple(paper))

    def test_a_state_of_another_machine(self):
        for at in range(15):
            for state in ("zz", "xo", "", "table", "O"):
                self.no(ROW, ROLES[:at] + (state,) + ROLES[at + 1:])
            paper = tuple((role, 0) for role in ROLES)
            for state in (ROLES[at], (ROLES[at], 1), (ROLES[at], -1), (ROLES[at], False), (ROLES[at], "0"),
                          (ROLES[at],), (ROLES[at], 0, 0), [ROLES[at], 0], ([ROLES[at]], 0)):
                self.no(("later", 0, ROW), paper[:at] + (state,) + paper[at + 1:])
                self.no(("slowed", 1, ROW), paper[:at] + (state,) + paper[at + 1:])

    def test_one_less_one_more_a_list(self):
        self.no(ROW, ROLES[:-1])
        self.no(ROW, ROLES[1:])
        self.no(ROW, ROLES + ("f",))
        self.no(ROW, ("o",) + ROLES)
        self.no(ROW, ROLES + ROLES)
        self.no(ROW, list(ROLES))
        self.no(ROW, (ROLES,))
        self.no(ROW, " ".join(ROLES))
        self.no(ROW, dict.fromkeys(ROLES))

    def test_things_of_any_kind(self):
        for machine in (ROW, ("later", 0, ROW), BARE):
            for thing in anythings():
                self.no(machine, thing)
                self.no(machine, (thing,) * 15)
                for at in (0, 4, 14):
                    self.no(machine, ROLES[:at] + (thing,) + ROLES[at + 1:])

    def test_each_window_counts(self):
        for at, row in enumerate(ROW[4]):
            met = tuple(name or None for name in row[:3]) + (row[3],) in windows(ROW, 20, 60)
            self.assertIs(plays(without(ROW, at), ROLES), not met, row)

    def test_a_window_in_which_the_hand_stays_counts(self):
        staying = [window for window in windows(ROW, 20, 60) if window[1] == window[3]]
        self.assertGreater(len(staying), 20)
        put_in = 0
        for left, own, right, new in staying:
            if own == "o" and left in ("o", None) and right in ("o", None):
                continue
            row = (left or "", own, right or "", "z")
            self.no(("table", "o", "g", "f", tuple(sorted(ROW[4] + (row,)))), ROLES)
            put_in += 1
        self.assertGreater(put_in, 20)

    def test_what_goes_otherwise(self):
        for machine in OTHERWISE:
            self.no(machine, ROLES)
            self.no(machine, tuple((role, 0) for role in ROLES))
            self.no(machine, tuple((role, role) for role in ROLES))

    def test_no_machine_ahead_of_all_else(self):
        for thing in anythings():
            for paper in (ROLES, None, (), [], thing):
                with self.assertRaises(NoMachine, msg=brief(thing)):
                    plays(thing, paper)


class NamesFor(unittest.TestCase):
    def test_what_goes_as_the_house(self):
        for machine, state_for in GOOD:
            told = names_for(machine)
            self.assertEqual(told, tuple(state_for(role) for role in ROLES))
            self.assertIs(plays(machine, told), True)
            self.assertEqual(names_for(machine), told)

    def test_two_roles_may_have_one_state(self):
        told = names_for(JOINED)
        self.assertEqual(told[ROLES.index("h")], told[ROLES.index("ga")])

    def test_what_goes_otherwise(self):
        for machine in OTHERWISE:
            self.assertIsNone(names_for(machine))

    def test_by_the_words_of_the_point(self):
        machines = [GOOD[at][0] for at in (0, 1, 5, 7)] + OTHERWISE[:5] + chance_machines(6, 2, 301)
        for machine in machines:
            self.assertEqual(names_for(machine), ref_names_for(machine))

    def test_one_row_left_out(self):
        met = windows(ROW, 20, 60)
        for at, row in enumerate(ROW[4]):
            told = names_for(without(ROW, at))
            if tuple(name or None for name in row[:3]) + (row[3],) in met:
                self.assertIsNone(told, row)
            else:
                self.assertEqual(told, ROLES, row)

    def test_one_row_exchanged(self):
        met = windows(ROW, 20, 60)
        for at, row in enumerate(ROW[4]):
            new = "h" if row[1] != "h" and row[3] != "h" else "z"
            told = names_for(exchanged(ROW, at, new))
            if tuple(name or None for name in row[:3]) + (row[3],) in met:
                self.assertIsNone(told, row)
            else:
                self.assertEqual(told, ROLES, row)

    def test_just_the_hands_in_role_f_fire(self):
        # All is one state for each role, but what fires is one beat late.
        self.assertIsNone(names_for(("later", 1, ROW)))
        self.assertIsNone(names_for(("table", "o", "g", "z", ROW[4])))

    def test_at_every_length_as_the_house(self):
        for machine, state_for in GOOD:
            told = dict(zip(ROLES, names_for(machine)))
            for n in (21, 22, 31, 37):
                rows = row_to(machine, n, 0, house_beat(n))
                for t in range(house_beat(n) + 1):
                    self.assertEqual(rows[t], tuple(told[seen(n, x, t)] for x in range(n)))

    def test_no_machine(self):
        for thing in anythings():
            with self.assertRaises(NoMachine, msg=brief(thing)):
                names_for(thing)
