"""Marks: where the slow wave and the fast one that comes back meet, and the tables that fire just there."""

from firetogether.learning import spare_name
from firetogether.strands import meet
from firetogether.tables import NOBODY

QUIET = "o"
START = "g"
FIRE = "f"
AWAY = "r"
BACK = "l"


def marked(n, slow):
    """The beat at which a row of n is marked, and the hands at which it is, left and right."""
    beat, left, right = meet((0, 0, 1, slow), (n - 1, n - 1, -1, 1))
    if left == right:
        return (beat, left, left)
    # Side by side they see one another, and fire a beat behind that.
    return (beat + 1, left, right)


def slow_states(slow):
    """The states of the slow wave: it stands in each hand for as many beats as it is slow, in each of them once."""
    return tuple(["s" + spare_name(number) for number in range(slow)])


def fast_rows(states):
    """The rows by which the fast wave goes to the right end and comes back, past a slow one of these states."""
    rows = [(QUIET, AWAY, QUIET, QUIET), (QUIET, BACK, QUIET, QUIET), (QUIET, BACK, NOBODY, QUIET)]
    for left in (START, AWAY):
        rows.append((left, QUIET, QUIET, AWAY))
        rows.append((left, QUIET, NOBODY, BACK))
    for left in (QUIET,) + states[:-1]:
        rows.append((left, QUIET, BACK, BACK))
    return rows


def slow_rows(states):
    """The rows by which the slow wave of these states stands and goes on."""
    coming = states[1:] + (QUIET,)
    rows = [(NOBODY, START, QUIET, coming[0])]
    for own, new in zip(states, coming):
        for left in (NOBODY, QUIET):
            for right in (QUIET, AWAY):
                rows.append((left, own, right, new))
    for right in (QUIET, AWAY):
        rows.append((states[-1], QUIET, right, states[0]))
    return rows


def parting_rows(states):
    """The rows of the hand in which the fast wave is while the slow one of these states is still beside it."""
    # A slow wave of two states comes into that hand straight behind the fast one, and is beside it once more.
    if len(states) == 2:
        return [(states[1], AWAY, QUIET, states[0]), (states[0], AWAY, QUIET, QUIET)]
    return [(state, AWAY, QUIET, QUIET) for state in states[1:2]]


def meeting_rows(states):
    """The rows by which hands fire where the slow wave of these states and the one that comes back meet."""
    rows = [(states[-1], QUIET, BACK, FIRE)]
    for state in states:
        for other in (NOBODY, QUIET):
            rows.append((other, state, BACK, FIRE))
            rows.append((state, BACK, other, FIRE))
    return rows


def marker(slow):
    """A table whose rows of two hands or more, started at hand 0, fire first just where and when marked tells."""
    states = slow_states(slow)
    rows = fast_rows(states) + slow_rows(states) + parting_rows(states) + meeting_rows(states)
    return ("table", QUIET, START, FIRE, tuple(sorted(rows)))
