"""Tables learned from rows that are run."""

from firetogether.machines import Works
from firetogether.rows import run_first, threes
from firetogether.tables import NOBODY

LETTERS = "abcdefghijklmnopqrstuvwxyz"


def runs(works, most, late):
    """For each of 1 to most hands the list of the rows from beat 0 to the first beat that has something to tell."""
    return [run_first(works, n, 0, late, False)[1] for n in range(1, most + 1)]


def windows_in(all_rows, closed):
    """The list of the unlike (left, own, right, new) of these runs of rows or rings, in the order of meeting them."""
    # A dict keeps each key once, where it came first.
    met = {}
    for rows in all_rows:
        for row, coming in zip(rows, rows[1:]):
            for (left, own, right), new in zip(threes(row, closed), coming):
                met[(left, own, right, new)] = True
    return list(met)


def states_in(all_rows):
    """The list of the unlike states of these runs, in the order in which they are met."""
    met = {}
    for rows in all_rows:
        for row in rows:
            for state in row:
                met[state] = True
    return list(met)


def windows(machine, most, late):
    """The list of the unlike (left, own, right, new) met in the rows of 1 to most hands started at 0."""
    return windows_in(runs(Works(machine), most, late), False)


def states_met(machine, most, late):
    """The list of the unlike states met in the rows of 1 to most hands started at 0."""
    return states_in(runs(Works(machine), most, late))


def spare_name(number):
    """The name with this number, from 0 on, among a, b .. z, aa, ab .. az, ba and on."""
    name = ""
    left = number + 1
    while left > 0:
        left, at = divmod(left - 1, len(LETTERS))
        name = LETTERS[at] + name
    return name


def named(works, states):
    """The list of (state, name) of these states."""
    names = []
    spares = 0
    for state in states:
        if state == works.quiet():
            names.append((state, "quiet"))
        elif state == works.start():
            names.append((state, "start"))
        elif works.fires(state):
            names.append((state, "fire"))
        else:
            names.append((state, spare_name(spares)))
            spares += 1
    return names


def table_of(all_windows, names):
    """The table that goes as these windows do, by these names of their states."""
    name_of = dict(names)
    # Nobody is None in a window, but the empty text in a table.
    name_of[None] = NOBODY
    rows = []
    for window in all_windows:
        left, own, right, new = [name_of[state] for state in window]
        if own != new:
            rows.append((left, own, right, new))
    return ("table", "quiet", "start", "fire", tuple(sorted(rows)))


def learned(machine, most, late):
    """The table learned from the rows of 1 to most hands started at 0, and the list of (state, name)."""
    works = Works(machine)
    all_rows = runs(works, most, late)
    names = named(works, states_in(all_rows))
    return (table_of(windows_in(all_rows, False), names), names)
