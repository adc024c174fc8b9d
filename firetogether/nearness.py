"""How long hands can't know how many they are, whatever the machine."""


def unlike_from(n, k, x):
    """The beat below which hand x of a row of n started at k is as in each row with more hands at the right."""
    # Word of the right end comes by way of the last hand: from k out to it, and from it back to x.
    return (n - 1 - k) + (n - 1 - x)


def ring_unlike_from(n, x):
    """The beat below which hand x of a ring of n started at 0 is as in the row without ends."""
    return n - min(x, n - x)


def bar(n, k):
    """The beat ahead of which no machine that is right for longer rows too fires a row of n started at k."""
    return n - 1 + max(k, n - 1 - k)


def ring_bar(n):
    """The beat ahead of which no machine that is right for longer rings too fires a ring of n."""
    return n
