"""Machines looked through for every length up to a bound (points 3 c, 12 and 15)."""

import unittest

from firetogether.errors import NoMachine
from firetogether.judging import alike, judged, ring_judged
from tests.helpers import (
    BARE, BLINKING, LEANING, anythings, chance_machines, counting, house, house_beat, house_ring_beat, ref_first,
    ref_fires, ref_run, rows_of,
)

# Right for one hand; two hands never stir.
ONE_ALONE = ("table", "o", "g", "f", (("", "g", "", "f"),))


class Judged(unittest.TestCase):
    def test_right_with_the_tuple_of_beats(self):
        self.assertEqual(judged(house("g"), 20, 60), ("right", tuple(house_beat(n) for n in range(1, 21))))
        self.assertEqual(judged(counting(3), 4, 3), ("right", (3, 3, 3, 3)))
        self.assertEqual(judged(("later", 2, counting(3)), 4, 5), ("right", (5, 5, 5, 5)))

    def test_most_1(self):
        self.assertEqual(judged(house("g"), 1, 1), ("right", (1,)))
        self.assertEqual(judged(ONE_ALONE, 1, 9), ("right", (1,)))

    def test_late_0(self):
        self.assertEqual(judged(house("g"), 5, 0), ("wrong", 1, "late", 0))
        self.assertEqual(judged(BARE, 5, 0), ("wrong", 1, "late", 0))

    def test_wrong_by_each_word(self):
        self.assertEqual(judged(counting(3), 9, 60), ("wrong", 5, "some", 3))
        self.assertEqual(judged(BARE, 9, 60), ("wrong", 1, "never", 1))
        self.assertEqual(judged(BLINKING, 9, 60), ("wrong", 1, "never", 2))
        self.assertEqual(judged(ONE_ALONE, 9, 60), ("wrong", 2, "never", 1))
        self.assertEqual(judged(house("g"), 9, 11), ("wrong", 6, "late", 11))
        self.assertEqual(judged(house("g"), 5, 11)[0], "right")
        self.assertEqual(judged(counting(3), 4, 2), ("wrong", 1, "late", 2))

    def test_the_least_length_is_told(self):
        # Wrong for two hands, right for three: what is told is the two.
        table = ("table", "o", "g", "f", rows_of("- g - f, - g o a, a r o f, g o o r, - a r f, a o - f, r o - f"))
        self.assertEqual(judged(table, 9, 9)[:2], ("wrong", 2))

    def test_started_at_hand_0(self):
        self.assertEqual(judged(("mirrored", LEANING), 3, 5), ("wrong", 1, "never", 1))
        self.assertEqual(judged(("mirrored", house("g")), 6, 60)[0], "wrong")

    def test_as_the_document_tells(self):
        for machine in chance_machines(60, 3, 61):
            told = judged(machine, 5, 12)
            firsts = [ref_first(machine, n, 0, 12, False) for n in range(1, 6)]
            wrong = [n for n in range(1, 6) if firsts[n - 1][0] != "all"]
            if wrong:
                self.assertEqual(told, ("wrong", wrong[0]) + firsts[wrong[0] - 1])
            else:
                self.assertEqual(told, ("right", tuple(t for word, t in firsts)))


class RingJudged(unittest.TestCase):
    def test_right_with_the_tuple_of_beats(self):
        self.assertEqual(ring_judged(house("w"), 20, 60), ("right", tuple(house_ring_beat(n) for n in range(3, 21))))
        self.assertEqual(ring_judged(counting(3), 7, 3), ("right", (3,) * 5))

    def test_most_3(self):
        self.assertEqual(ring_judged(house("w"), 3, 6), ("right", (6,)))
        self.assertEqual(ring_judged(house("w"), 3, 5), ("wrong", 3, "late", 5))

    def test_late_0(self):
        self.assertEqual(ring_judged(house("w"), 5, 0), ("wrong", 3, "late", 0))

    def test_wrong_by_each_word(self):
        self.assertEqual(ring_judged(counting(3), 20, 60), ("wrong", 8, "some", 3))
        self.assertEqual(ring_judged(BARE, 20, 60), ("wrong", 3, "never", 1))
        self.assertEqual(ring_judged(house("w"), 20, 14), ("wrong", 6, "late", 14))
        self.assertEqual(ring_judged(BLINKING, 20, 60), ("wrong", 3, "never", 2))

    def test_as_the_document_tells(self):
        for machine in chance_machines(60, 3, 62):
            told = ring_judged(machine, 6, 12)
            firsts = {n: ref_first(machine, n, 0, 12, True) for n in range(3, 7)}
            wrong = [n for n in firsts if firsts[n][0] != "all"]
            if wrong:
                self.assertEqual(told, ("wrong", wrong[0]) + firsts[wrong[0]])
            else:
                self.assertEqual(told, ("right", tuple(t for word, t in firsts.values())))


class Alike(unittest.TestCase):
    def test_none(self):
        self.assertIsNone(alike(house("g"), house("g"), 9, 40))
        self.assertIsNone(alike(BARE, BLINKING, 9, 40))
        self.assertIsNone(alike(("later", 2, counting(3)), counting(5), 4, 40))
        self.assertIsNone(alike(house("g"), ("mirrored", ("mirrored", house("g"))), 9, 40))

    def test_beats_0(self):
        self.assertIsNone(alike(house("g"), BARE, 9, 0))

    def test_the_first_length_beat_and_hand_either_way_about(self):
        self.assertEqual(alike(counting(3), counting(5), 4, 40), (1, 3, 0))
        self.assertEqual(alike(counting(5), counting(3), 4, 40), (1, 3, 0))
        self.assertEqual(alike(ONE_ALONE, house("g"), 9, 40), (2, 2, 0))
        self.assertEqual(alike(house("g"), ONE_ALONE, 9, 40), (2, 2, 0))
        self.assertEqual(alike(BARE, LEANING, 9, 40), (2, 1, 1))
        self.assertEqual(alike(LEANING, BARE, 9, 40), (2, 1, 1))

    def test_at_just_the_bounds(self):
        self.assertEqual(alike(ONE_ALONE, house("g"), 2, 2), (2, 2, 0))
        self.assertIsNone(alike(ONE_ALONE, house("g"), 1, 2))
        self.assertIsNone(alike(ONE_ALONE, house("g"), 2, 1))
        self.assertIsNone(alike(("later", 2, counting(3)), ("later", 3, counting(2)), 3, 40))
        self.assertEqual(alike(("later", 2, counting(3)), ("later", 3, counting(2)), 4, 5), (4, 5, 3))
        self.assertIsNone(alike(("later", 2, counting(3)), ("later", 3, counting(2)), 4, 4))

    def test_unlike_behind_the_first_firing(self):
        # Both fire at hand 0 first; one fires at hand 1 later on, the other never.
        one = ("table", "o", "g", "f", rows_of("- g o f, f o - f"))
        other = ("table", "o", "g", "f", rows_of("- g o f"))
        self.assertEqual(alike(one, other, 9, 40), (2, 2, 1))
        self.assertIsNone(alike(one, other, 9, 1))

    def test_as_the_document_tells(self):
        machines = chance_machines(50, 3, 63)
        found = 0
        for one, other in zip(machines, machines[1:]):
            first = None
            for n in range(4, 0, -1):
                rows, facing = ref_run(one, n, 0, 9, False), ref_run(other, n, 0, 9, False)
                for t in range(9, -1, -1):
                    for x in range(n - 1, -1, -1):
                        if ref_fires(one, rows[t][x]) != ref_fires(other, facing[t][x]):
                            first = (n, t, x)
            found += first is not None
            self.assertEqual(alike(one, other, 4, 9), first)
            self.assertEqual(alike(other, one, 4, 9), first)
        self.assertGreater(found, 10)


class Refused(unittest.TestCase):
    def test_no_machine_ahead_of_all_else(self):
        for thing in anythings() + ["a", ("later", 61, BARE)]:
            for most, late in ((3, 4), (None, "a"), (0, 0), (-1, -1), (True, [])):
                with self.assertRaises(NoMachine):
                    judged(thing, most, late)
                with self.assertRaises(NoMachine):
                    ring_judged(thing, most, late)
                with self.assertRaises(NoMachine):
                    alike(thing, BARE, most, late)
                with self.assertRaises(NoMachine):
                    alike(BARE, thing, most, late)
                with self.assertRaises(NoMachine):
                    alike(thing, thing, most, late)
