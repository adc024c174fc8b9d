"""Names, and tables: the machines of which all others are put together."""

from firetogether.errors import NoMachine
from firetogether.kinds import is_tuple_of

LONGEST_NAME = 8
NOBODY = ""


def is_name(thing):
    """Whether the thing is a text of one to eight letters from a to z."""
    if not isinstance(thing, str) or not 1 <= len(thing) <= LONGEST_NAME:
        return False
    return all(["a" <= sign <= "z" for sign in thing])


def is_neighbour(thing):
    """Whether the thing may stand left or right in a row of a table."""
    return isinstance(thing, str) and (thing == NOBODY or is_name(thing))


def is_table_row(thing, quiet, fire):
    """Whether the thing may be one of the rows of a table with this quiet and this fire."""
    if not is_tuple_of(thing, 4):
        return False
    left, own, right, new = thing
    if not (is_neighbour(left) and is_name(own) and is_neighbour(right) and is_name(new)):
        return False
    if own == new or own == fire:
        return False
    calm = (quiet, NOBODY)
    return own != quiet or left not in calm or right not in calm


def are_table_rows(thing, quiet, fire):
    """Whether the thing may be the rows of a table with this quiet and this fire."""
    if not isinstance(thing, tuple):
        return False
    if not all([is_table_row(row, quiet, fire) for row in thing]):
        return False
    # Rows that rise and have no first three in common are just those whose first three rise.
    return all([low[:3] < high[:3] for low, high in zip(thing, thing[1:])])


def is_table(thing):
    """Whether the thing is a table."""
    if not is_tuple_of(thing, 5):
        return False
    word, quiet, start, fire, rows = thing
    if not isinstance(word, str) or word != "table":
        return False
    if not (is_name(quiet) and is_name(start) and is_name(fire)):
        return False
    if quiet == start or quiet == fire or start == fire:
        return False
    return are_table_rows(rows, quiet, fire)


def names_in(table):
    """The rising tuple of the states of what is known to be a table."""
    names = list(table[1:4])
    for row in table[4]:
        names.extend([name for name in row if name != NOBODY])
    return tuple(sorted(set(names)))


def states_of(table):
    """The rising tuple of a table's states."""
    if not is_table(table):
        raise NoMachine("this is no table")
    return names_in(table)
