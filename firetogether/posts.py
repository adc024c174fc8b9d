"""The hands that are posts, and from which beat on, of numbers of any size."""

from firetogether.stretches import halves, levels


def post_beat(n, x):
    """The beat from which hand x is a post."""
    if x == 0 or x == n - 1:
        return x
    whole = (0, n - 1, 0)
    for hands, begun, hit, met in levels(n):
        left, right = halves(whole)
        if x == left[1] or x == right[0]:
            return met
        whole = left if x < left[1] else right
    # No hand of the row comes here: each is an end of some stretch.
    return None


def posts(n, t):
    """How many hands are posts at beat t."""
    ends = [0] if n == 1 else [0, n - 1]
    many = len([beat for beat in ends if beat <= t])
    in_level = 1
    for hands, begun, hit, met in levels(n):
        if met <= t:
            # Of an even number of hands the two in the midst become posts, side by side.
            many += in_level * (1 if hands % 2 == 1 else 2)
        in_level *= 2
    return many
