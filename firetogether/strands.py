"""Strands: what stands or goes evenly from hand to hand, of numbers of any size."""


def place_at(strand, t):
    """Where the strand stands at beat t."""
    place, beat, way, slow = strand
    return place + way * ((t - beat) // slow)


def gap(one, other, t):
    """How far the other strand stands to the right of the one at beat t."""
    return place_at(other, t) - place_at(one, t)


def first_near(one, other, far, near):
    """The first beat at which two strands are side by side or nearer: behind the beat far, at near or sooner."""
    # The gap never grows, so the beats between can be halved.
    while near - far > 1:
        middle = (far + near) // 2
        if gap(one, other, middle) > 1:
            far = middle
        else:
            near = middle
    return near


def meet(one, other):
    """The first beat at which two strands are in one hand or side by side, and their places; None if never."""
    beat = max(one[1], other[1])
    apart = gap(one, other, beat)
    if apart > 1:
        slows = [strand[3] for strand in (one, other) if strand[2] != 0]
        if len(slows) == 0:
            return None
        # One that goes by itself has closed the whole gap by then.
        beat = first_near(one, other, beat, beat + apart * min(slows))
    return (beat, place_at(one, beat), place_at(other, beat))
