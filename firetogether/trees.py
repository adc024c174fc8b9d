"""Trees of hands, and the tours round them."""

from firetogether.errors import NoTree
from firetogether.kinds import is_between


def is_tree(thing):
    """Whether the thing is a tree of three hands or more."""
    if not isinstance(thing, tuple) or len(thing) < 2:
        return False
    return all([is_between(tied, 0, k) for k, tied in enumerate(thing)])


def neighbours_in(tree):
    """For each hand of the tree the rising list of those to which it is tied."""
    told = [[]]
    for k, tied in enumerate(tree):
        told[tied].append(k + 1)
        told.append([tied])
    return told


def tour(tree, r):
    """The tuple of the seats by which one goes round the tree from hand r."""
    if not is_tree(tree):
        raise NoTree("this is no tree")
    if not is_between(r, 0, len(tree)):
        raise NoTree("this is no hand of the tree")
    neighbours = neighbours_in(tree)
    came = r
    at = neighbours[r][0]
    seats = [r]
    # Each of the ties is gone both ways, once.
    while len(seats) < 2 * len(tree):
        seats.append(at)
        ties = neighbours[at]
        came, at = at, ties[(ties.index(came) + 1) % len(ties)]
    return tuple(seats)
