"""Papers of names for rings, which show that a machine does in every ring what the house's does."""

from firetogether.beats import ring_beat
from firetogether.house import ring_machine
from firetogether.learning import windows_in
from firetogether.machines import Works
from firetogether.names import LONGEST, goes_by, names_states, paper_by, roles
from firetogether.rows import run_to

SHORTEST = 3


def ring_roles():
    """The states in which the hands of the house's rings are, in the order of a paper of names."""
    return roles() + ("w", "wa", "wb", "k")


def ring_runs(works):
    """For each ring of 3 to 20 hands the list of what it is from beat 0 to the beat at which the house's fires."""
    return [run_to(works, n, 0, ring_beat(n), True) for n in range(SHORTEST, LONGEST + 1)]


def ring_plays(machine, thing):
    """Whether the thing is a paper of names for the machine's rings."""
    works = Works(machine)
    if not names_states(works, thing, ring_roles(), "w"):
        return False
    return goes_by(works, thing, ring_roles(), windows_in(ring_runs(Works(ring_machine())), True))


def ring_names_for(machine):
    """The paper of names that the machine's rings of 3 to 20 hands tell; None where they tell none."""
    works = Works(machine)
    return paper_by(works, ring_roles(), ring_runs(Works(ring_machine())), ring_runs(works))
