"""The waves of a stretch, of numbers of any size."""

from firetogether.stretches import levels, stretch


def waves(n, level, i):
    """The three waves of the i-th stretch of a level: each its word, its strand and the last beat of it."""
    hands, begun, hit, met = levels(n)[level]
    begin, end, side = stretch(n, level, i)
    post, far, way = (begin, end, 1) if side == 0 else (end, begin, -1)
    return (
        ("out", (post, begun, way, 1), begun + hands - 2),
        ("back", (far, hit, -way, 1), met - 1),
        ("slow", (post, begun, way, 3), met - 1),
    )
