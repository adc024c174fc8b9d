"""Rows that are run, drawn."""

from firetogether.rows import row_to
from firetogether.showing import show_row


def drawn(machine, n, k, beats):
    """The list of the rows of n hands, started at k, at beat 0 to beats, each written."""
    return [show_row(row) for row in row_to(machine, n, k, beats)]
