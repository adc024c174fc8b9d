"""The beats at which machines put together of the house's fire, of numbers of any size."""

from firetogether.beats import anywhere_beat, ring_beat, row_beat
from firetogether.house import anywhere_machine, ring_machine, row_machine
from firetogether.machines import need_machine, parts_of


def put_together(machine, beats):
    """The beat of a machine put together of others than by mirroring, by theirs; None where one is not told."""
    if None in beats:
        return None
    word = machine[0]
    if word == "later":
        return beats[0] + machine[1]
    if word == "slowed":
        return beats[0] * machine[1]
    return max(beats) if word == "both" else min(beats)


def table_row_beat(table, n, k):
    """The beat at which a row of n started at k fires by this table; None where it is not told."""
    if k == 0 and table == row_machine():
        return row_beat(n)
    if table == anywhere_machine():
        return anywhere_beat(n, k)
    return None


def machine_row_beat(machine, n, k):
    """What told_row tells of what is known to be a machine."""
    if machine[0] == "table":
        return table_row_beat(machine, n, k)
    if machine[0] == "mirrored":
        return machine_row_beat(machine[1], n, n - 1 - k)
    return put_together(machine, [machine_row_beat(part, n, k) for part in parts_of(machine)])


def machine_ring_beat(machine, n):
    """What told_ring tells of what is known to be a machine."""
    if machine[0] == "table":
        return ring_beat(n) if machine == ring_machine() else None
    if machine[0] == "mirrored":
        return machine_ring_beat(machine[1], n)
    return put_together(machine, [machine_ring_beat(part, n) for part in parts_of(machine)])


def told_row(machine, n, k):
    """The beat at which all hands of a row of n started at k fire; None where it is not told."""
    need_machine(machine)
    return machine_row_beat(machine, n, k)


def told_ring(machine, n):
    """The beat at which all hands of a ring of n fire; None where it is not told."""
    need_machine(machine)
    return machine_ring_beat(machine, n)
