"""Machines that fire ahead of the bar, and the longer rows and rings for which they are wrong."""

from firetogether.kinds import is_between, is_tuple_of
from firetogether.machines import Works
from firetogether.nearness import bar, ring_bar
from firetogether.rows import first_told


def haste(machine, n, k):
    """The beat at which a row fires ahead of its bar, a longer row and its start; None where it doesn't."""
    word, beat = first_told(Works(machine), n, k, bar(n, k) - 1, False)
    if word != "all":
        return None
    beyond = n - 1 - k
    # Hands are put on at the side that is farther off: word of its end is what the near hands can't have.
    if beyond >= k:
        return (beat, n + max(1, beat + 1 - beyond), k)
    more = max(1, beat + 1 - k)
    return (beat, n + more, k + more)


def ring_haste(machine, n):
    """The beat at which a ring fires ahead of its bar, and a longer ring; None where it doesn't."""
    word, beat = first_told(Works(machine), n, 0, ring_bar(n) - 1, True)
    if word != "all":
        return None
    return (beat, 2 * beat + 2)


def shows_haste(machine, n, k, thing):
    """Whether the thing is a beat at which a row fires ahead of its bar, and a longer row and start that shows it."""
    works = Works(machine)
    if not is_tuple_of(thing, 3):
        return False
    beat, many, start = thing
    if not is_between(beat, 1, bar(n, k) - 1) or not is_between(many, n, n + beat + 1):
        return False
    if not is_between(start, 0, many - 1):
        return False
    if first_told(works, n, k, beat, False) != ("all", beat):
        return False
    return first_told(works, many, start, beat, False)[0] == "some"
