"""Mends: the one row by which a table that is wrong to a bound is made right to it."""

from firetogether.errors import NoMachine
from firetogether.judging import verdict
from firetogether.machines import works_of
from firetogether.rows import first_told, run_first, threes
from firetogether.tables import NOBODY, is_table, is_table_row, names_in


def mended(table, row):
    """The table that has this row, but none where new is own, instead of the one with the same first three."""
    rows = [other for other in table[4] if other[:3] != row[:3]]
    if row[1] != row[3]:
        rows.append(row)
    return table[:4] + (tuple(sorted(rows)),)


def threes_met(works, n, late):
    """The rising list of the unlike (left, own, right) of the row of n, ahead of the beat that is told of it."""
    rows = run_first(works, n, 0, late, False)[1]
    # Nobody is None in a row that is run, but the empty text in a table.
    return sorted({
        (left or NOBODY, own, right or NOBODY)
        for row in rows[:-1]
        for left, own, right in threes(row, False)
    })


def is_right(table, n, most, late):
    """Whether the table is right to the bound; the row of n, wrong so far, is run first: most mends fail there."""
    works = works_of(table)
    if first_told(works, n, 0, late, False)[0] != "all":
        return False
    return verdict(works, 1, most, late, False)[0] == "right"


def mends(table, most, late):
    """The rising list of all (left, own, right, new) of which one alone, otherwise, makes a wrong table right."""
    if not is_table(table):
        raise NoMachine("what is no table can't be mended")
    works = works_of(table)
    found = verdict(works, 1, most, late, False)
    if found[0] == "right":
        return []
    # A row goes otherwise only by what is met in it: so the first wrong one tells where to look.
    told = []
    states = names_in(table)
    for three in threes_met(works, found[1], late):
        for new in states:
            row = three + (new,)
            if new != row[1] and not is_table_row(row, table[1], table[3]):
                continue
            if is_right(mended(table, row), found[1], most, late):
                told.append(row)
    return told
