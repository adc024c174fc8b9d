"""Trees that are run by their tours (points 3 b and 28)."""

import unittest

from firetogether.beats import ring_beat
from firetogether.errors import NoMachine, NoTree
from firetogether.house import ring_machine
from firetogether.trees import tour
from firetogether.treeruns import seen_tree, tree_beat, tree_to
from tests.helpers import (
    BARE, BIGS, BLINKING, LEANING, anythings, brief, chance_machines, counting, house, house_ring_beat, ref_fires,
    ref_run,
)
from tests.test_trees import CHAIN, FORK, STAR, all_trees, ref_tour

LEAST = [(0, 0), (0, 1)]
OTHERS = [(0, 1, 0, 3, 2), (0, 1, 2, 2, 0), FORK]
RING = house("w")
MACHINES = [
    house("w"), BARE, LEANING, BLINKING, counting(3), ("mirrored", LEANING), ("later", 2, counting(2)),
    ("slowed", 3, house("w")), ("both", house("w"), LEANING), ("either", ("mirrored", house("w")), counting(4)),
]


def ref_tree(machine, tree, r, beats):
    """For each beat, hand by hand, the states of its seats, by a plain run of the ring of the tour."""
    seats = ref_tour(tree, r)
    told = []
    for ring in ref_run(machine, len(seats), 0, beats, True):
        by_hand = {hand: () for hand in range(len(tree) + 1)}
        for hand, state in zip(seats, ring):
            by_hand[hand] += (state,)
        told.append(tuple(by_hand[hand] for hand in range(len(tree) + 1)))
    return told


class TreeTo(unittest.TestCase):
    def test_word_for_word(self):
        self.assertEqual(tree_to(house("w"), (0, 0), 1, 3), [
            (("o", "o"), ("w",), ("o",)),
            (("r", "o"), ("wa",), ("o",)),
            (("o", "o"), ("wb",), ("r",)),
            (("ra", "r"), ("p",), ("o",)),
        ])
        self.assertEqual(tree_to(LEANING, (0, 1), 0, 1), [(("g",), ("o", "o"), ("o",)), (("g",), ("f", "o"), ("o",))])

    def test_beat_0_alone(self):
        self.assertEqual(tree_to(BARE, (0, 0), 0, 0), [(("start", "quiet"), ("quiet",), ("quiet",))])

    def test_machines_and_trees_from_each_hand(self):
        for tree in LEAST + OTHERS:
            for r in range(len(tree) + 1):
                for machine in MACHINES:
                    self.assertEqual(tree_to(machine, tree, r, 9), ref_tree(machine, tree, r, 9), (tree, r))

    def test_each_tree_of_few_hands(self):
        for n in (3, 4, 5):
            for tree in all_trees(n):
                for r in range(n):
                    self.assertEqual(tree_to(LEANING, tree, r, 4), ref_tree(LEANING, tree, r, 4))

    def test_machines_made_by_chance(self):
        for machine in chance_machines(25, 4, 281):
            for tree in LEAST + OTHERS[:1]:
                self.assertEqual(tree_to(machine, tree, 1, 8), ref_tree(machine, tree, 1, 8))

    def test_chain_and_star(self):
        for tree in (CHAIN, STAR):
            for r in (0, 1, 14, 29):
                self.assertEqual(tree_to(LEANING, tree, r, 20), ref_tree(LEANING, tree, r, 20))

    def test_of_two_hands_there_is_no_tree(self):
        # A tree has three hands or more; one of two is refused, though going round it would have two seats.
        for r in (0, 1):
            with self.assertRaises(NoTree):
                tree_to(house("w"), (0,), r, 3)
            with self.assertRaises(NoTree):
                seen_tree((0,), r, 0, 3)

    def test_the_list_is_the_askers_own(self):
        told = tree_to(house("w"), FORK, 2, 5)
        kept = list(told)
        told.clear()
        self.assertEqual(tree_to(house("w"), FORK, 2, 5), kept)
        self.assertTrue(all(isinstance(beat, tuple) and all(isinstance(own, tuple) for own in beat) for beat in kept))


class TreeBeat(unittest.TestCase):
    def test_small(self):
        self.assertEqual([tree_beat(n) for n in range(3, 9)], [10, 15, 22, 27, 33, 38])

    def test_of_any_size(self):
        for n in list(range(3, 60)) + list(BIGS):
            self.assertEqual(tree_beat(n), ring_beat(2 * (n - 1)))
            self.assertEqual(tree_beat(n), house_ring_beat(2 * (n - 1)))

    def test_all_seats_fire_then_and_none_ahead(self):
        for tree in LEAST + OTHERS + [CHAIN, STAR]:
            last = tree_beat(len(tree) + 1)
            for r in sorted({0, 1, len(tree) // 2, len(tree)}):
                told = tree_to(ring_machine(), tree, r, last)
                firing = [[ref_fires(RING, state) for own in beat for state in own] for beat in told]
                self.assertTrue(all(firing[-1]))
                self.assertFalse(any(any(beat) for beat in firing[:-1]))


class SeenTree(unittest.TestCase):
    def test_small(self):
        self.assertEqual(seen_tree((0, 0), 1, 0, 3), ("ra", "r"))
        self.assertEqual(seen_tree((0, 0), 1, 1, 0), ("w",))
        self.assertEqual(seen_tree((0, 1), 0, 2, 10), ("f",))

    def test_each_hand_at_each_beat_as_it_is_run(self):
        for tree in LEAST + OTHERS + [CHAIN, STAR]:
            hands = len(tree) + 1
            last = tree_beat(hands) + 2
            for r in range(hands) if hands < 10 else (0, 7, 29):
                told = tree_to(ring_machine(), tree, r, last)
                for t in range(0, last + 1, 1 if hands < 10 else 5):
                    self.assertEqual(tuple(seen_tree(tree, r, x, t) for x in range(hands)), told[t], (tree, r, t))

    def test_beats_of_sixty_figures(self):
        for x in range(8):
            self.assertEqual(seen_tree(FORK, 3, x, 10 ** 60), ("f",) * tour(FORK, 3).count(x))


class Refused(unittest.TestCase):
    def test_no_machine_ahead_of_no_tree(self):
        for thing in anythings():
            for tree, r in ((FORK, 0), (None, 0), ((0,), 0), (FORK, -1), (FORK, True), ([], {})):
                with self.assertRaises(NoMachine, msg=brief(thing)):
                    tree_to(thing, tree, r, 3)

    def test_no_tree_of_anything(self):
        for thing in anythings() + [(0,), (1, 0), (0, 2), (0, -1), (0, True), [0, 1], (0, [1])]:
            for r in (0, 1, -1, None, True):
                with self.assertRaises(NoTree, msg=brief(thing)):
                    tree_to(house("w"), thing, r, 3)
                with self.assertRaises(NoTree, msg=brief(thing)):
                    seen_tree(thing, r, 0, 3)

    def test_a_hand_that_is_none_of_anything(self):
        hands = range(len(FORK) + 1)
        for thing in anythings() + [8, 9, -2, [0], (0,), "0"]:
            if isinstance(thing, int) and not isinstance(thing, bool) and thing in hands:
                continue
            with self.assertRaises(NoTree, msg=brief(thing)):
                tree_to(house("w"), FORK, thing, 3)
            with self.assertRaises(NoTree, msg=brief(thing)):
                seen_tree(FORK, thing, 0, 3)
