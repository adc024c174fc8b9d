"""What is seen of the house's machine at any hand and beat of a row, of numbers of any size."""

from firetogether.beats import row_beat
from firetogether.posts import post_beat
from firetogether.stretches import halves, levels

COMING = ("g", "ga", "gb")
# By the side at which the post that came last is: the fast wave away from it, the fast one back, the slow one's three.
AWAY = ("r", "l")
BACK = ("l", "r")
SLOW = (("ra", "rb", "rc"), ("la", "lb", "lc"))


def under_way(n, t):
    """The number of the level that is under way at beat t, and this level; None behind the last met."""
    for number, level in enumerate(levels(n)):
        if t < level[3]:
            return (number, level)
    return None


def stretch_of(n, number, x):
    """The stretch in which hand x stands, of the level of this number; x is none of its posts yet."""
    told = (0, n - 1, 0)
    for step in range(number):
        left, right = halves(told)
        told = left if x <= left[1] else right
    return told


def seen_post(n, x, since, t):
    """The state at beat t of hand x, which is a post since then."""
    last = n > 1 and x == n - 1
    if last and t == since:
        return "h"
    if not last and t - since < len(COMING):
        return COMING[t - since]
    found = under_way(n, t)
    if found is None:
        return "p"
    hands, begun, hit, met = found[1]
    # The post that came last sends the wave; it is the other end, a post from of old, at which the wave arrives.
    return "h" if t == hit and since != begun else "p"


def seen_wave(n, x, t):
    """The state at beat t of hand x, which is no post yet."""
    found = under_way(n, t)
    # Where no level is under way a hand that is no post is the last one of two, which has heard of nothing yet.
    if found is None:
        return "o"
    number, (hands, begun, hit, met) = found
    begin, end, side = stretch_of(n, number, x)
    off = x - begin if side == 0 else end - x
    age = t - begun
    if off == age:
        return AWAY[side]
    if off + age == 2 * (hands - 1) and age > hands - 1:
        return BACK[side]
    if off == age // 3:
        return SLOW[side][age % 3]
    return "o"


def seen(n, x, t):
    """The state of hand x at beat t of a row of n started at 0 with g."""
    if t >= row_beat(n):
        return "f"
    since = post_beat(n, x)
    return seen_post(n, x, since, t) if since <= t else seen_wave(n, x, t)


def seen_anywhere(n, k, x, t):
    """The state of hand x at beat t of a row of n started at k with m."""
    if t > k:
        return seen(n, x, t - k - 1)
    return "m" if x == k - t else "o"
