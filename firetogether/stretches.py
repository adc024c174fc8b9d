"""The stretches into which a row of the house is cut, level by level, of numbers of any size."""

from firetogether.kinds import is_tuple_of, is_whole


def levels(n):
    """For each level whose stretches have 3 hands or more these hands, and its beats begun, hit and met."""
    told = []
    hands = n
    begun = 0
    while hands > 2:
        met = begun + (3 * (hands - 1) + 1) // 2
        told.append((hands, begun, begun + hands - 1, met))
        hands = (hands + 1) // 2
        begun = met
    return tuple(told)


def halves(whole):
    """The two stretches of the next level that a stretch gives: they share a hand where it has an odd number."""
    begin, end, side = whole
    return ((begin, begin + (end - begin) // 2, 1), (begin + (end - begin + 1) // 2, end, 0))


def stretch(n, level, i):
    """The i-th stretch from the left of a level."""
    told = (0, n - 1, 0)
    for step in range(level):
        told = halves(told)[(i >> (level - 1 - step)) & 1]
    return told


def is_such_level(thing, level):
    """Whether the thing is this level, truths being no numbers."""
    return is_tuple_of(thing, len(level)) and all([is_whole(one) and one == told for one, told in zip(thing, level)])


def shows_levels(n, thing):
    """Whether the thing is levels(n)."""
    told = levels(n)
    return is_tuple_of(thing, len(told)) and all([is_such_level(one, level) for one, level in zip(thing, told)])
