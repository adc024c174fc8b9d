"""Folds that are shown and folds that are found (points 3 e, 16 and 17)."""

import itertools
import random
import unittest

from firetogether.errors import NoMachine
from firetogether.folds import folded, shows_fold
from firetogether.judging import alike
from firetogether.rings import ring_to
from firetogether.tables import is_table, states_of
from tests.helpers import (
    BARE, BLINKING, LEANING, anythings, brief, chance_table, counting, house, ref_behind, ref_states, rows_of,
)


def table(text):
    return ("table", "o", "g", "f", rows_of(text))


def itself(one):
    return tuple((state, state) for state in ref_states(one))


def pairs_of(text):
    """Pairs written as `a b, c d`."""
    return tuple(tuple(part.split()) for part in text.split(","))


def kept_in_all_windows(one, other, goes):
    """The last clause of point 16 word by word, window by window."""
    def gone(state):
        return state if state is None else goes[state]
    states = ref_states(one)
    return all(
        gone(ref_behind(one, left, own, right)) == ref_behind(other, gone(left), gone(own), gone(right))
        for left in states + [None] for own in states for right in states + [None])


def ref_shows_fold(one, other, pairs):
    goes = dict(pairs)
    if [goes[name] for name in one[1:4]] != list(other[1:4]):
        return False
    if [state for state in goes if state not in one[1:4] and goes[state] in other[1:4]]:
        return False
    return kept_in_all_windows(one, other, goes)


def partitions(things):
    """All ways to part a list into lists."""
    if not things:
        yield []
        return
    for rest in partitions(things[1:]):
        yield [[things[0]]] + rest
        for at in range(len(rest)):
            yield rest[:at] + [[things[0]] + rest[at]] + rest[at + 1:]


def holds_as_one(one, goes):
    """Whether states that go to the same come to such as go to the same, whichever of them stand there."""
    states = ref_states(one)
    met = {}
    for left, own, right in itertools.product(states + [None], states, states + [None]):
        new = goes[ref_behind(one, left, own, right)]
        if met.setdefault((goes.get(left), goes[own], goes.get(right)), new) != new:
            return False
    return True


def ref_fewest(one):
    """The fold to the fewest names, each the least, by trying all ways to part the states."""
    free = [state for state in ref_states(one) if state not in one[1:4]]
    best = []
    for parts in partitions(free):
        goes = {state: min(part) for part in parts for state in part}
        goes.update({name: name for name in one[1:4]})
        if holds_as_one(one, goes):
            best.append((len(parts), tuple(sorted(goes.items()))))
    fewest = min(best)[0]
    told = [pairs for many, pairs in best if many == fewest]
    assert len(told) == 1
    return told[0]


def twinned(base, copies, rng, restless=True):
    """A table that folds into the base, with so many copies of the states told, and the fold.

    Where the base stays, its copies become one another, if they are restless.
    """
    same = {state: [state + "xyz"[at] for at in range(copies.get(state, 0))] or [state] for state in ref_states(base)}
    same[""] = [""]
    news = {row[:3]: row[3] for row in base[4]}
    rows = []
    for left, own, right in itertools.product(same, [name for name in same if name], same):
        new = news.get((left, own, right), own)
        if new == own and not restless:
            continue
        for key in itertools.product(same[left], same[own], same[right]):
            then = rng.choice(same[new])
            if then != key[1]:
                rows.append(key + (then,))
    made = (base[0], base[1], base[2], base[3], tuple(sorted(rows)))
    pairs = tuple(sorted((one, name) for name, others in same.items() if name for one in others))
    return made, tuple(pair for pair in pairs if pair[0] in ref_states(made))


def ring_firings(machine, n, beats):
    return [[state == machine[3] for state in row] for row in ring_to(machine, n, 0, beats)]


# Of these a and b are twins, and b is never again what it was.
TWO = table("- g - a, - g o b, - a - f, - a o f, - b - f, - b o f, a o - a, b o - b")
ONE = table("- g - a, - g o a, - a - f, - a o f, a o - a")
PAIRS = pairs_of("a a,b a,f f,g g,o o")


class Shown(unittest.TestCase):
    def good(self, one, other, thing):
        self.assertIs(shows_fold(one, other, thing), True, brief(thing))

    def bad(self, one, other, thing):
        self.assertIs(shows_fold(one, other, thing), False, brief(thing))

    def test_into_itself(self):
        for one in (BARE, LEANING, BLINKING, TWO, ONE, counting(7), house("g"), house("m"), house("w")):
            self.good(one, one, itself(one))

    def test_twins(self):
        self.good(TWO, ONE, PAIRS)
        self.bad(TWO, TWO, PAIRS)
        self.bad(TWO, ONE, itself(TWO))

    def test_other_names_in_the_second(self):
        other = ("table", "calm", "first", "bang", rows_of(
            "- first - zz, - first calm zz, - zz - bang, - zz calm bang, zz calm - zz"))
        self.good(TWO, other, pairs_of("a zz,b zz,f bang,g first,o calm"))
        self.good(ONE, other, pairs_of("a zz,f bang,g first,o calm"))
        self.bad(TWO, other, PAIRS)

    def test_one_for_each_state_in_order(self):
        for at in range(4):
            swapped = list(PAIRS)
            swapped[at], swapped[at + 1] = swapped[at + 1], swapped[at]
            self.bad(TWO, ONE, tuple(swapped))
        self.bad(TWO, ONE, PAIRS[::-1])
        for at in range(5):
            self.bad(TWO, ONE, PAIRS[:at] + PAIRS[at + 1:])
            self.bad(TWO, ONE, PAIRS[:at] + PAIRS[at:at + 1] + PAIRS[at:])
            self.bad(TWO, ONE, PAIRS[:at] + PAIRS[at:at + 1] + PAIRS[at:at + 1] + PAIRS[at + 2:])
        self.bad(TWO, ONE, PAIRS + (("z", "z"),))
        self.bad(TWO, ONE, PAIRS + (("z", "a"),))
        self.bad(TWO, ONE, PAIRS[:2] + (("c", "c"),) + PAIRS[2:])
        self.bad(TWO, ONE, PAIRS[:2] + (("b", "c"),) + PAIRS[2:])

    def test_a_name_that_is_no_state(self):
        self.bad(TWO, ONE, pairs_of("a a,c a,f f,g g,o o"))
        self.bad(TWO, ONE, pairs_of("aa a,b a,f f,g g,o o"))
        self.bad(BARE, BARE, pairs_of("fire fire,quiet quiet,stars start"))

    def test_one_of_the_three_gone_elsewhere(self):
        # No row is there: nothing but this clause is broken.
        self.good(BARE, BARE, pairs_of("fire fire,quiet quiet,start start"))
        self.bad(BARE, BARE, pairs_of("fire x,quiet quiet,start start"))
        self.bad(BARE, BARE, pairs_of("fire fire,quiet x,start start"))
        self.bad(BARE, BARE, pairs_of("fire fire,quiet quiet,start x"))
        self.bad(BARE, BARE, pairs_of("fire start,quiet quiet,start fire"))
        self.bad(BARE, BARE, pairs_of("fire quiet,quiet fire,start start"))
        self.bad(BARE, BARE, pairs_of("fire fire,quiet start,start quiet"))

    def test_another_state_gone_to_one_of_the_three(self):
        for name, text, fewer in (
            ("o", "o g - a, z g - a", "o g - a"),
            ("f", "f g - a, z g - a", "f g - a"),
            ("g", "g a - b, z a - b", "g a - b"),
        ):
            one, other = table(text), table(fewer)
            goes = dict(itself(one))
            goes["z"] = name
            self.assertTrue(kept_in_all_windows(one, other, goes))
            self.bad(one, other, tuple(sorted(goes.items())))
            goes["z"] = "z"
            self.good(one, one, tuple(sorted(goes.items())))

    def test_a_window_that_comes_otherwise_in_the_second(self):
        one = table("- g - a, - g o a, - a - f, - a o f, a o - a, a a g o, o a - g")
        for at, row in enumerate(one[4]):
            rows = one[4][:at] + one[4][at + 1:]
            self.bad(one, one[:4] + (rows,), itself(one))
            for new in ("a", "f", "g", "o"):
                if new not in row[1::2]:
                    other = one[:4] + (rows[:at] + (row[:3] + (new,),) + rows[at:],)
                    self.assertTrue(is_table(other))
                    self.bad(one, other, itself(one))

    def test_a_row_too_many_in_the_second(self):
        for text in ("g g g a", "- g g a", "g g - a", "- a a f", "a g a o", "f a f o"):
            self.bad(ONE, table("- g - a, - g o a, - a - f, - a o f, a o - a, " + text), itself(ONE))

    def test_a_row_of_the_second_that_only_some_of_the_twins_have(self):
        one = table("- g - a, - g o b, - a - f, - a o f, - b - f, a o - a, b o - b")
        self.bad(one, ONE, PAIRS)
        for at in range(len(TWO[4])):
            self.bad(TWO[:4] + (TWO[4][:at] + TWO[4][at + 1:],), ONE, PAIRS)

    def test_rows_of_the_second_to_which_nothing_goes(self):
        more = "- g - a, - g o a, - a - f, - a o f, a o - a"
        for text in ("x y z v, - x - y, a x - g, g g x a", "x g g a", "g x g a", "g g x a", "x a - g", "- o x g"):
            self.good(TWO, table(more + ", " + text), PAIRS)
        self.good(ONE, table(more + ", x y z v, - x - y"), itself(ONE))

    def test_twins_that_become_one_another(self):
        one = table("- g - a, - a - b, - b - a")
        self.good(one, table("- g - a"), PAIRS)
        self.bad(one, table("- g - a, - a - f"), PAIRS)
        self.good(one, table("- g - c"), pairs_of("a c,b c,f f,g g,o o"))

    def test_a_name_that_is_no_state_of_the_second(self):
        one = table("x a - b, - g - a")
        self.assertEqual(states_of(one), ("a", "b", "f", "g", "o", "x"))
        for name in ("x", "zz", "v"):
            self.good(one, table("- g - a"), pairs_of("a a,b a,f f,g g,o o,x " + name))
        # In the second it stays: one that goes on can't go there, nor one at whose side another goes on.
        self.bad(table("- g - x, - x - f"), table("- g - x"), pairs_of("f f,g g,o o,x x"))
        self.bad(table("- g - x, - x - f"), table("- g - y, - y - f"), pairs_of("f f,g g,o o,x x"))
        self.bad(table("x g - f"), table("y g - f"), pairs_of("f f,g g,o o,x x"))
        self.good(table("x g - f"), table("y g - f"), pairs_of("f f,g g,o o,x y"))

    def test_a_state_called_table_is_one_as_others_are(self):
        one = table("- g - table, - g o tablf, - table - f, - tablf - f")
        other = table("- g - table, - g o table, - table - f")
        self.good(one, other, pairs_of("f f,g g,o o,table table,tablf table"))
        self.assertEqual(folded(one), (other, pairs_of("f f,g g,o o,table table,tablf table")))

    def test_lists_and_other_lengths(self):
        self.bad(TWO, ONE, list(PAIRS))
        self.bad(TWO, ONE, dict(PAIRS))
        self.bad(TWO, ONE, tuple(list(pair) for pair in PAIRS))
        for at in range(5):
            for pair in (list(PAIRS[at]), PAIRS[at] + ("a",), PAIRS[at][:1], (), "".join(PAIRS[at]), None, 2, PAIRS):
                self.bad(TWO, ONE, PAIRS[:at] + (pair,) + PAIRS[at + 1:])

    def test_texts_that_are_no_names(self):
        # Such a one would be a state without rows, were it a name.
        one = table("x a - b, - g - a")
        for text in ("", "A", "x y", "abcdefghi", "x\n", "1", "-", "\u00e9"):
            self.bad(one, table("- g - a"), (("a", "a"), ("b", "a"), ("f", "f"), ("g", "g"), ("o", "o"), ("x", text)))
        self.good(one, table("- g - a"), pairs_of("a a,b a,f f,g g,o o,x abcdefgh"))

    def test_of_anything(self):
        for thing in anythings():
            self.bad(TWO, ONE, thing)
            for at in range(5):
                self.bad(TWO, ONE, PAIRS[:at] + (thing,) + PAIRS[at + 1:])
                self.bad(TWO, ONE, PAIRS[:at] + ((thing, PAIRS[at][1]),) + PAIRS[at + 1:])
                self.bad(TWO, ONE, PAIRS[:at] + ((PAIRS[at][0], thing),) + PAIRS[at + 1:])

    def test_as_the_document_tells(self):
        rng = random.Random(81)
        told = []
        for turn in range(150):
            base = chance_table(rng)
            one, pairs = twinned(base, {"a": rng.choice([0, 2, 3]), "b": rng.choice([0, 2])}, rng)
            other = base
            if rng.random() < 0.5 and base[4]:
                at = rng.randrange(len(base[4]))
                other = base[:4] + (base[4][:at] + base[4][at + 1:],)
            if rng.random() < 0.3:
                at = rng.randrange(len(pairs))
                pairs = pairs[:at] + ((pairs[at][0], rng.choice(["a", "b", "o", "q"])),) + pairs[at + 1:]
            told.append(ref_shows_fold(one, other, pairs))
            self.assertIs(shows_fold(one, other, pairs), told[-1])
        self.assertGreater(told.count(True), 20)
        self.assertGreater(told.count(False), 20)

    def test_of_many_states(self):
        # Four names a row: all threes of them are far too many to be walked one by one.
        names = ["".join(letters) for letters in itertools.product("abcdehij", repeat=4)][:1600]
        rows = tuple(tuple(names[at:at + 4]) for at in range(0, 1600, 4))
        one = ("table", "o", "g", "f", rows)
        self.good(one, one, itself(one))
        self.bad(one, ("table", "o", "g", "f", rows[1:]), itself(one))
        other, pairs = folded(one)
        self.good(one, other, pairs)

    def test_no_machine_ahead_of_all_else(self):
        nones = anythings() + ["a", ("mirrored", ONE), ("later", 0, ONE), ("slowed", 1, ONE), ("both", ONE, ONE),
                               ("either", ONE, ONE)]
        for none in nones:
            for thing in (PAIRS, None, (), [], "a", 3):
                for one, other in ((none, ONE), (TWO, none), (none, none)):
                    with self.assertRaises(NoMachine, msg=brief(none)):
                        shows_fold(one, other, thing)


class Folded(unittest.TestCase):
    def test_what_cannot_be_folded(self):
        for one in (BARE, LEANING, BLINKING, ONE, counting(1), counting(6), house("g"), house("m"), house("w")):
            self.assertEqual(folded(one), (one, itself(one)))

    def test_two_twins(self):
        self.assertEqual(folded(TWO), (ONE, PAIRS))

    def test_three_twins(self):
        one = table("- g - a, - g o b, o g - c, - a - f, - b - f, - c - f")
        self.assertEqual(folded(one), (
            table("- g - a, - g o a, o g - a, - a - f"), pairs_of("a a,b a,c a,f f,g g,o o")))

    def test_twins_that_become_one_another(self):
        one = table("- g - b, - b - c, - c - b")
        self.assertEqual(folded(one), (table("- g - b"), pairs_of("b b,c b,f f,g g,o o")))
        one = table("- g - b, - b - c, - c - b, - b o f, - c o f")
        self.assertEqual(folded(one), (table("- g - b, - b o f"), pairs_of("b b,c b,f f,g g,o o")))

    def test_states_that_no_row_has_as_own(self):
        # Of x, y, z the first two are alike at the side of others; of v and w nothing comes.
        one = table("- g - v, o g o w, x g - v, y g - w, z g x v, z g y v")
        self.assertEqual(folded(one), (
            table("- g - v, o g o v, x g - v, z g x v"), pairs_of("f f,g g,o o,v v,w v,x x,y x,z z")))
        # Nothing is told apart by x and y: they are held for the state that does nothing, and no row needs it.
        one = table("- g - a, x a - b, - b y a")
        self.assertEqual(folded(one), (table("- g - a"), pairs_of("a a,b a,f f,g g,o o,x a,y a")))

    def test_a_state_that_no_row_needs(self):
        # Held for the same a and b don't heed x any more, but x still is none of them, for it comes to nothing.
        one = table("- g - a, x a - b, - a - f, - b - f")
        other, pairs = folded(one)
        self.assertEqual(other, table("- g - a, - a - f"))
        self.assertEqual(pairs, pairs_of("a a,b a,f f,g g,o o,x x"))
        self.assertNotIn("x", states_of(other))

    def test_alike_but_as_neighbours(self):
        left = table("- g - a, - g o b, a o - g")
        right = table("- g - a, - g o b, - o a g")
        for one in (left, right):
            self.assertEqual(folded(one), (one, itself(one)))
        both = table("- g - a, - g o b, a o - g, b o - g")
        self.assertEqual(folded(both), (table("- g - a, - g o a, a o - g"), PAIRS))
        # They do the same to their neighbours, but not both on the same side.
        unlike = table("- g - a, - g o b, a o - g, - o b g")
        self.assertEqual(folded(unlike), (unlike, itself(unlike)))

    def test_the_three_are_held_apart(self):
        # z does as quiet does, y as fire, x as start: but it is none of these.
        one = table("- g - y, - x - y, - o x z, - o g z")
        self.assertEqual(folded(one)[1], pairs_of("f f,g g,o o,x x,y y,z y"))

    def test_told_apart_only_step_by_step(self):
        # A chain: each is told from the next by the last one alone.
        names = [one + two for one in "abcd" for two in "abcdefghijklmnopqrstuvwxyz"]
        rows = tuple(("", now, "", then) for now, then in zip(names, names[1:] + ["f"]))
        one = ("table", "o", "g", "f", tuple(sorted(rows)))
        self.assertEqual(folded(one), (one, itself(one)))
        other = ("table", "o", "g", "f", tuple(sorted(rows[:-1])))
        self.assertEqual(folded(other)[0], BARE[:1] + ("o", "g", "f", ()))

    def test_the_least_name_is_kept(self):
        one = table("- g - zz, - g o za, - zz - f, - za - f, - b o a, - zz o b, - za o b")
        self.assertEqual(folded(one)[1], pairs_of("a a,b a,f f,g g,o o,za za,zz za"))

    def test_the_fewest_names_of_all_ways(self):
        rng = random.Random(82)
        fewer = 0
        for turn in range(60):
            one = twinned(chance_table(rng), {"a": rng.choice([0, 2, 3]), "b": rng.choice([0, 2])}, rng)[0]
            self.assertTrue(is_table(one))
            pairs = folded(one)[1]
            self.assertEqual(pairs, ref_fewest(one))
            fewer += pairs != itself(one)
        self.assertGreater(fewer, 20)

    def test_what_is_told_of_it(self):
        rng = random.Random(83)
        for turn in range(40):
            one = twinned(chance_table(rng), {"a": rng.choice([0, 2, 3]), "b": rng.choice([0, 2])}, rng)[0]
            other, pairs = folded(one)
            goes = dict(pairs)
            self.assertTrue(is_table(other))
            self.assertIs(shows_fold(one, other, pairs), True)
            self.assertEqual([state for state, name in pairs], list(states_of(one)))
            for name in goes.values():
                self.assertEqual(name, min(state for state in goes if goes[state] == name))
            for at in range(len(other[4])):
                fewer = other[:4] + (other[4][:at] + other[4][at + 1:],)
                self.assertIs(shows_fold(one, fewer, pairs), False)
            self.assertTrue({name for row in other[4] for name in row} <= set(goes.values()) | {""})
            self.assertEqual(folded(other), (other, itself(other)))
            self.assertIsNone(alike(one, other, 7, 25))
            for n in (3, 4, 7):
                self.assertEqual(ring_firings(one, n, 20), ring_firings(other, n, 20))

    def test_a_house_with_twins_fires_as_the_house(self):
        rng = random.Random(84)
        for start in "gw":
            one = twinned(house(start), {"rb": 2, "gb": 2, "wa": 3}, rng, False)[0]
            self.assertLessEqual(len(one[4]), 400)
            other, pairs = folded(one)
            self.assertEqual(len(states_of(one)), len(states_of(house(start))) + 4)
            self.assertEqual(len(states_of(other)), len(states_of(house(start))))
            self.assertEqual(len(other[4]), len(house(start)[4]))
            self.assertIsNone(alike(one, other, 12, 40))
            self.assertEqual(ring_firings(one, 9, 30), ring_firings(other, 9, 30))

    def test_kinds_and_told_again(self):
        told = folded(TWO)
        self.assertIsInstance(told, tuple)
        self.assertIsInstance(told[1], tuple)
        self.assertTrue(all(isinstance(pair, tuple) for pair in told[1]))
        self.assertEqual(folded(TWO), told)

    def test_no_machine(self):
        for thing in anythings() + ["a", "table", ("mirrored", ONE), ("later", 0, ONE), ("slowed", 1, ONE),
                                    ("both", ONE, ONE), ("either", ONE, ONE)]:
            with self.assertRaises(NoMachine, msg=brief(thing)):
                folded(thing)
