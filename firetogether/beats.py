"""The beats at which the house's machine fires, of numbers of any size."""


def ones(number):
    """How many ones the number has, written by twos."""
    many = 0
    left = number
    while left > 0:
        many += left & 1
        left //= 2
    return many


def ring_beat(n):
    """The beat at which a ring of n fires, started with w."""
    return 3 * n - ones(n) - 1


def row_beat(n):
    """The beat at which a row of n fires, started at 0 with g."""
    # A row of three or more fires when the ring does that it would be if its last hand were hand 0 too.
    return n if n < 3 else ring_beat(n - 1)


def anywhere_beat(n, k):
    """The beat at which a row of n fires, started at k with m."""
    # The start goes to hand 0 first, and begins there one beat behind that.
    return k + 1 + row_beat(n)
