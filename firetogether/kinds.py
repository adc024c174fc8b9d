"""Of what kind a thing is, whatever is handed in."""


def is_whole(thing):
    """Whether the thing is a whole number: a truth is none."""
    return isinstance(thing, int) and not isinstance(thing, bool)


def is_between(thing, low, high):
    """Whether the thing is a whole number from low to high."""
    return is_whole(thing) and low <= thing <= high


def is_tuple_of(thing, many):
    """Whether the thing is a tuple of so many things."""
    return isinstance(thing, tuple) and len(thing) == many
