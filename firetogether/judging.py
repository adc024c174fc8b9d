"""Machines looked through for every length up to a bound."""

from firetogether.machines import Works
from firetogether.rows import begun, first_told, stepped


def verdict(works, least, most, late, closed):
    """Right with the beats of all lengths from least to most, or wrong with the least length that is not so."""
    beats = []
    for n in range(least, most + 1):
        word, beat = first_told(works, n, 0, late, closed)
        if word != "all":
            return ("wrong", n, word, beat)
        beats.append(beat)
    return ("right", tuple(beats))


def judged(machine, most, late):
    """Whether all rows of 1 to most hands, started at hand 0, fire together by beat late."""
    return verdict(Works(machine), 1, most, late, False)


def ring_judged(machine, most, late):
    """Whether all rings of 3 to most hands fire together by beat late."""
    return verdict(Works(machine), 3, most, late, True)


def first_unlike_hand(works, others, row, facing):
    """The first hand that fires in just one of two rows, each of its own machine; None where there is none."""
    for x, state in enumerate(row):
        if works.fires(state) != others.fires(facing[x]):
            return x
    return None


def first_unlike(works, others, n, beats):
    """The first beat and hand at which just one of two rows of n fires; None where there is none up to beats."""
    row = begun(works, n, 0)
    facing = begun(others, n, 0)
    stood = set()
    for beat in range(beats + 1):
        x = first_unlike_hand(works, others, row, facing)
        if x is not None:
            return (beat, x)
        # Two rows that stood side by side once go on as they did then.
        if (row, facing) in stood:
            return None
        stood.add((row, facing))
        row = stepped(works, row, False)
        facing = stepped(others, facing, False)
    return None


def alike(one, other, most, beats):
    """None, or the first length, beat and hand at which just one of two machines fires."""
    works = Works(one)
    others = Works(other)
    for n in range(1, most + 1):
        found = first_unlike(works, others, n, beats)
        if found is not None:
            return (n, found[0], found[1])
    return None
