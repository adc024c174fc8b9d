"""Trees that are run: their tours are rings."""

from firetogether.beats import ring_beat
from firetogether.machines import Works
from firetogether.rows import run_to
from firetogether.seenrings import seen_ring
from firetogether.trees import tour


def places_of(hand, seats):
    """The list of the places in the tour at which this hand has a seat."""
    return [place for place, who in enumerate(seats) if who == hand]


def tree_to(machine, tree, r, beats):
    """For each beat from 0 to beats, for each hand of the tree, the states of its seats; started at hand r."""
    # What is no machine is refused ahead of what is no tree.
    works = Works(machine)
    seats = tour(tree, r)
    places = [places_of(hand, seats) for hand in range(len(tree) + 1)]
    rings = run_to(works, len(seats), 0, beats, True)
    return [tuple([tuple([ring[place] for place in own]) for own in places]) for ring in rings]


def tree_beat(n):
    """The beat at which all seats of a tree of n hands fire, started with w."""
    return ring_beat(2 * (n - 1))


def seen_tree(tree, r, x, t):
    """The states of the seats of hand x at beat t of a tree started at hand r with w."""
    seats = tour(tree, r)
    return tuple([seen_ring(len(seats), place, t) for place in places_of(x, seats)])
