"""Papers of names, which show that a machine does at every length what the house's does."""

from firetogether.beats import row_beat
from firetogether.house import row_machine
from firetogether.kinds import is_tuple_of
from firetogether.learning import windows
from firetogether.machines import Works
from firetogether.rows import run_to

ROLES = ("o", "g", "ga", "gb", "p", "h", "r", "l", "ra", "rb", "rc", "la", "lb", "lc", "f")
# In rows and rings of up to so many hands all is met that is met in longer ones.
LONGEST = 20
# By this beat the house has fired them all.
LATEST = 60


def roles():
    """The states in which the hands of the house's rows are, in the order of a paper of names."""
    return ROLES


def fires_as_told(works, state_for, words):
    """Whether the state for f fires, and no other one."""
    return all([works.fires(state_for[word]) == (word == "f") for word in words])


def names_states(works, thing, words, start):
    """Whether the thing tells states of the machine for these roles, and the right ones for o, the start and f."""
    if not is_tuple_of(thing, len(words)) or not all([works.holds(state) for state in thing]):
        return False
    state_for = dict(zip(words, thing))
    if state_for["o"] != works.quiet() or state_for[start] != works.start():
        return False
    return fires_as_told(works, state_for, words)


def goes_by(works, states, words, all_windows):
    """Whether the machine goes through these windows by the states for these roles."""
    state_for = dict(zip(words, states))
    # Where nobody is, nobody is for the machine either.
    state_for[None] = None
    for window in all_windows:
        left, own, right, new = [state_for[word] for word in window]
        if works.behind(left, own, right) != new:
            return False
    return True


def one_state_each(state_for, rows, facing):
    """Whether one state alone faces each role in these rows and in those noted so far; notes what faces it."""
    for row, others in zip(rows, facing):
        for word, state in zip(row, others):
            if state_for.setdefault(word, state) != state:
                return False
    return True


def paper_by(works, words, runs, facing):
    """The tuple of the states that face these roles in the house's runs; None where not one does, or others fire."""
    state_for = {}
    for rows, others in zip(runs, facing):
        if not one_state_each(state_for, rows, others):
            return None
    if not fires_as_told(works, state_for, words):
        return None
    return tuple([state_for[word] for word in words])


def row_runs(works):
    """For each row of 1 to 20 hands the list of what it is from beat 0 to the beat at which the house's fires."""
    return [run_to(works, n, 0, row_beat(n), False) for n in range(1, LONGEST + 1)]


def plays(machine, thing):
    """Whether the thing is a paper of names for the machine."""
    works = Works(machine)
    if not names_states(works, thing, ROLES, "g"):
        return False
    return goes_by(works, thing, ROLES, windows(row_machine(), LONGEST, LATEST))


def names_for(machine):
    """The paper of names that the machine's rows of 1 to 20 hands tell; None where they tell none."""
    works = Works(machine)
    return paper_by(works, ROLES, row_runs(Works(row_machine())), row_runs(works))
