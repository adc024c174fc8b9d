"""Papers of names for rings (point 37)."""

import unittest

from firetogether.errors import NoMachine
from firetogether.house import ring_machine
from firetogether.ringnames import ring_names_for, ring_plays, ring_roles
from firetogether.rings import ring_to
from firetogether.seenrings import seen_ring
from tests.helpers import (
    BARE, BLINKING, LEANING, anythings, brief, chance_machines, counting, exchanged, house, house_ring_beat, ref_behind,
    ref_fires, ref_run, ref_states, renamed, without,
)

ROLES = ("o", "g", "ga", "gb", "p", "h", "r", "l", "ra", "rb", "rc", "la", "lb", "lc", "f", "w", "wa", "wb", "k")
RING = house("w")
OTHER = renamed(RING, {role: "x" + role for role in ROLES})


def ring_windows(least, most):
    """All (left, own, right) in the house's rings of so many hands, at the beats below that at which they fire."""
    met = set()
    for n in range(least, most + 1):
        for ring in ref_run(RING, n, 0, house_ring_beat(n) - 1, True):
            met.update(zip(ring[-1:] + ring[:-1], ring, ring[1:] + ring[:1]))
    return met


# Kept, for a plain run of so many rings takes a while.
MET = ring_windows(3, 20)
MET_NEWS = {three: ref_behind(RING, *three) for three in MET}
# Just the rows that are met, with no other.
NEEDED = RING[:4] + (tuple(sorted(row for row in RING[4] if row[:3] in MET)),)


def alone(state):
    return state


def twice(state):
    return (state, state)


def with_0(state):
    return (state, 0)


GOOD = [
    (RING, alone),
    (NEEDED, alone),
    (OTHER, lambda role: "x" + role),
    (("slowed", 1, RING), with_0),
    (("later", 0, RING), with_0),
    (("both", RING, RING), twice),
    (("either", RING, RING), twice),
    (("both", RING, OTHER), lambda role: (role, "x" + role)),
    (("mirrored", ("mirrored", RING)), alone),
    (("either", ("later", 0, ("slowed", 1, RING)), OTHER), lambda role: (((role, 0), 0), "x" + role)),
    (("slowed", 1, ("both", RING, ("later", 0, RING))), lambda role: ((role, (role, 0)), 0)),
]

OTHERWISE = [
    ("later", 1, RING), ("later", 60, RING), ("slowed", 2, RING), ("slowed", 60, RING), ("mirrored", RING),
    house("g"), house("m"), BARE, LEANING, BLINKING, counting(3), ("both", RING, BARE), ("either", RING, LEANING),
    ("both", RING, ("later", 1, RING)), ("either", RING, ("slowed", 2, RING)), ("both", RING, ("mirrored", RING)),
]


def ref_names_for(machine):
    faces = {}
    for n in range(3, 21):
        beats = house_ring_beat(n)
        for ring, others in zip(ref_run(RING, n, 0, beats, True), ref_run(machine, n, 0, beats, True)):
            for role, state in zip(ring, others):
                faces.setdefault(role, set()).add(state)
    if any(len(states) > 1 for states in faces.values()):
        return None
    paper = tuple(next(iter(faces[role])) for role in ROLES)
    return paper if [ref_fires(machine, state) for state in paper] == [role == "f" for role in ROLES] else None


class RingRoles(unittest.TestCase):
    def test_word_for_word(self):
        self.assertEqual(ring_roles(), ROLES)
        self.assertIsInstance(ring_roles(), tuple)


class RingPlays(unittest.TestCase):
    def yes(self, machine, thing):
        self.assertIs(ring_plays(machine, thing), True)

    def no(self, machine, thing):
        self.assertIs(ring_plays(machine, thing), False, brief(thing))

    def test_the_house_itself(self):
        self.yes(ring_machine(), ring_roles())

    def test_what_goes_as_the_house(self):
        for machine, state_for in GOOD:
            self.yes(machine, tuple(state_for(role) for role in ROLES))

    def test_another_quiet_one(self):
        self.no(("table", "z", "w", "f", RING[4]), ROLES)

    def test_another_start(self):
        for machine in (house("g"), house("m"), ("table", "o", "z", "f", RING[4])):
            self.no(machine, ROLES)

    def test_an_f_that_does_not_fire(self):
        self.no(("later", 1, RING), tuple((role, 0) for role in ROLES))
        self.no(("table", "o", "w", "z", RING[4]), ROLES)

    def test_a_role_that_fires_and_is_not_f(self):
        for at in range(19):
            if ROLES[at] != "f":
                self.no(RING, ROLES[:at] + ("f",) + ROLES[at + 1:])

    def test_each_role_by_another_state(self):
        for at in range(19):
            for state in ref_states(RING):
                self.assertIs(ring_plays(RING, ROLES[:at] + (state,) + ROLES[at + 1:]), state == ROLES[at], (at, state))

    def test_a_state_of_another_machine(self):
        paper = tuple((role, 0) for role in ROLES)
        for at in range(19):
            for state in ("zz", "xo", "", "W"):
                self.no(RING, ROLES[:at] + (state,) + ROLES[at + 1:])
            for state in (ROLES[at], (ROLES[at], 1), (ROLES[at], False), (ROLES[at],), [ROLES[at], 0], (ROLES[at], 0, 0)):
                self.no(("later", 0, RING), paper[:at] + (state,) + paper[at + 1:])

    def test_one_less_one_more_a_list(self):
        for thing in (ROLES[:-1], ROLES[1:], ROLES + ("k",), ("o",) + ROLES, list(ROLES), (ROLES,), " ".join(ROLES),
                      ROLES[:15], dict.fromkeys(ROLES)):
            self.no(RING, thing)

    def test_things_of_any_kind(self):
        for machine in (RING, ("later", 0, RING), BARE):
            for thing in anythings():
                self.no(machine, thing)
                self.no(machine, (thing,) * 19)
                self.no(machine, ROLES[:4] + (thing,) + ROLES[5:])

    def test_each_three_neighbours_count(self):
        for at, row in enumerate(RING[4]):
            self.assertIs(ring_plays(without(RING, at), ROLES), row[:3] not in MET, row)
        put_in = 0
        for three, new in MET_NEWS.items():
            if new == three[1] and three != ("o", "o", "o"):
                table = RING[:4] + (tuple(sorted(RING[4] + (three + ("z",),))),)
                self.no(table, ROLES)
                put_in += 1
        self.assertGreater(put_in, 20)

    def test_what_goes_otherwise(self):
        for machine in OTHERWISE:
            for state_for in (alone, with_0, twice):
                self.no(machine, tuple(state_for(role) for role in ROLES))

    def test_no_machine_ahead_of_all_else(self):
        for thing in anythings():
            for paper in (ROLES, None, (), thing):
                with self.assertRaises(NoMachine, msg=brief(thing)):
                    ring_plays(thing, paper)


class RingNamesFor(unittest.TestCase):
    def test_what_goes_as_the_house(self):
        for machine, state_for in GOOD:
            told = ring_names_for(machine)
            self.assertEqual(told, tuple(state_for(role) for role in ROLES))
            self.assertIs(ring_plays(machine, told), True)
            self.assertEqual(ring_names_for(machine), told)

    def test_two_roles_may_have_one_state(self):
        joined = 0
        for one in ROLES[1:14]:
            for other in ROLES[2:14]:
                names = {other: one}
                table = renamed(NEEDED, names)
                news = {}
                for three, new in MET_NEWS.items():
                    key = tuple(names.get(name, name) for name in three)
                    news.setdefault(key, set()).add(names.get(new, new))
                if one != other and all(len(told) == 1 for told in news.values()):
                    paper = tuple(names.get(role, role) for role in ROLES)
                    rows = tuple(sorted(key + tuple(told) for key, told in news.items() if key[1] not in told))
                    self.assertEqual(ring_names_for(table[:4] + (rows,)), paper)
                    self.assertIs(ring_plays(table[:4] + (rows,), paper), True)
                    joined += 1
        self.assertGreater(joined, 2)

    def test_what_goes_otherwise(self):
        for machine in OTHERWISE:
            self.assertIsNone(ring_names_for(machine))

    def test_by_the_words_of_the_point(self):
        for machine in [GOOD[2][0], GOOD[4][0]] + OTHERWISE[:5:2] + chance_machines(3, 2, 371):
            self.assertEqual(ring_names_for(machine), ref_names_for(machine))

    def test_one_row_left_out_or_exchanged(self):
        for at, row in enumerate(RING[4]):
            new = "h" if "h" not in (row[1], row[3]) else "z"
            for table in (without(RING, at), exchanged(RING, at, new)):
                told = ring_names_for(table)
                if row[:3] in MET:
                    self.assertIsNone(told, row)
                else:
                    self.assertEqual(told, ROLES, row)

    def test_in_longer_rings_as_the_house(self):
        for machine, state_for in GOOD[:5] + GOOD[-1:]:
            told = dict(zip(ROLES, ring_names_for(machine)))
            for n in (21, 22, 23, 31, 32, 33, 40, 41):
                rings = ring_to(machine, n, 0, house_ring_beat(n))
                for t in range(house_ring_beat(n) + 1):
                    self.assertEqual(rings[t], tuple(told[seen_ring(n, x, t)] for x in range(n)))

    def test_no_machine(self):
        for thing in anythings():
            with self.assertRaises(NoMachine, msg=brief(thing)):
                ring_names_for(thing)
