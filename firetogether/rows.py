"""Rows that are run, with ends or without, and the steps that rings share with them."""

from firetogether.machines import Works


def begun(works, n, k):
    """The row of n hands at beat 0, hand k being the one that starts."""
    return tuple([works.start() if x == k else works.quiet() for x in range(n)])


def threes(row, closed):
    """The list of (left, own, right) for each hand: of a closed row, a ring, else of one with ends."""
    before = row[-1:] if closed else (None,)
    after = row[:1] if closed else (None,)
    return list(zip(before + row[:-1], row, row[1:] + after))


def stepped(works, row, closed):
    """The row one beat on."""
    return tuple([works.behind(left, own, right) for left, own, right in threes(row, closed)])


def run_to(works, n, k, beats, closed):
    """The list of the rows at beat 0 to beats."""
    row = begun(works, n, k)
    rows = [row]
    for beat in range(beats):
        row = stepped(works, row, closed)
        rows.append(row)
    return rows


def firing_word(works, row):
    """Which hands of the row fire: all, some or none."""
    firing = [works.fires(state) for state in row]
    if all(firing):
        return "all"
    return "some" if any(firing) else "none"


def run_first(works, n, k, late, closed):
    """The first word to tell, up to beat late, and the list of the rows from beat 0 to its beat."""
    row = begun(works, n, k)
    rows = []
    stood = set()
    for beat in range(late + 1):
        rows.append(row)
        word = firing_word(works, row)
        if word != "none":
            return (word, rows)
        if row in stood:
            return ("never", rows)
        stood.add(row)
        row = stepped(works, row, closed)
    return ("late", rows)


def first_told(works, n, k, late, closed):
    """The first word to tell, up to beat late, and its beat."""
    word, rows = run_first(works, n, k, late, closed)
    return (word, len(rows) - 1)


def row_to(machine, n, k, beats):
    """The list of the rows of n hands, started at k, at beat 0 to beats."""
    return run_to(Works(machine), n, k, beats, False)


def row_first(machine, n, k, late):
    """The first word to tell of a row of n hands started at k, up to beat late, and its beat."""
    return first_told(Works(machine), n, k, late, False)


def open_row(machine, beat):
    """The states at this beat of the hands from - beat to beat of a row without ends started at 0."""
    works = Works(machine)
    quiet = works.quiet()
    row = (works.start(),)
    for step in range(beat):
        # Quiet hands are put on at both sides; the outermost ones, which see an end where none is, go again.
        longer = (quiet, quiet) + row + (quiet, quiet)
        row = stepped(works, longer, False)[1:-1]
    return row
