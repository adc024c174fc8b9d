"""What is seen of the house's machine at any hand and beat of a ring, of numbers of any size."""

from firetogether.seen import seen
from firetogether.stretches import levels

OPENING = ("w", "wa", "wb")


def seen_ring(n, x, t):
    """The state of hand x at beat t of a ring of n started at 0 with w."""
    # The ring is a row of one hand more, whose last hand is hand 0 too.
    if x > 0 or t >= levels(n + 1)[0][3]:
        return seen(n + 1, x, t)
    if t < len(OPENING):
        return OPENING[t]
    return "k" if t == n else "p"
