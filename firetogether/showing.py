"""Machines and rows, written."""

from firetogether.house import anywhere_machine, ring_machine, row_machine
from firetogether.machines import LEAST_COUNT, need_machine, parts_of
from firetogether.tables import NOBODY

END = "-"
STOP = "."


def house_words():
    """The pairs of a word and the house's table that is written so."""
    return (("row", row_machine()), ("anywhere", anywhere_machine()), ("round", ring_machine()))


def table_words(table):
    """The list of the words of what is known to be a table."""
    for word, house in house_words():
        if table == house:
            return [word]
    words = list(table[:4])
    for row in table[4]:
        words.extend([END if name == NOBODY else name for name in row])
    return words + [STOP]


def machine_words(machine):
    """The list of the words of what is known to be a machine."""
    if machine[0] == "table":
        return table_words(machine)
    words = [machine[0]]
    if machine[0] in LEAST_COUNT:
        words.append(str(machine[1]))
    for part in parts_of(machine):
        words.extend(machine_words(part))
    return words


def show_machine(machine):
    """The machine, written."""
    need_machine(machine)
    return " ".join(machine_words(machine))


def state_text(state):
    """A state, or the number in a pair, written."""
    if isinstance(state, tuple):
        return f"({state_text(state[0])} {state_text(state[1])})"
    return str(state)


def show_row(row):
    """The row, written."""
    return " ".join([state_text(state) for state in row])
