"""Rings that are run: rows whose last hand is the left one of hand 0."""

from firetogether.machines import Works
from firetogether.rows import first_told, run_to


def ring_to(machine, n, k, beats):
    """The list of the rings of n hands, started at k, at beat 0 to beats."""
    return run_to(Works(machine), n, k, beats, True)


def ring_first(machine, n, k, late):
    """The first word to tell of a ring of n hands started at k, up to beat late, and its beat."""
    return first_told(Works(machine), n, k, late, True)
