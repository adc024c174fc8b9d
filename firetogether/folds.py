"""Folds: tables told with fewer states that fire just alike."""

from firetogether.errors import NoMachine
from firetogether.kinds import is_tuple_of
from firetogether.tables import NOBODY, is_name, is_table, names_in


def are_pairs_for(thing, states):
    """Whether the thing is a tuple of pairs of names, one for each of these states, in their order."""
    if not is_tuple_of(thing, len(states)):
        return False
    if not all([is_tuple_of(pair, 2) and is_name(pair[0]) and is_name(pair[1]) for pair in thing]):
        return False
    return all([pair[0] == state for pair, state in zip(thing, states)])


def keeps_three(one, other, pairs):
    """Whether quiet, start and fire go to quiet, start and fire, and no other state to these."""
    three = dict(zip(one[1:4], other[1:4]))
    for state, name in pairs:
        if state in three and name != three[state]:
            return False
        if state not in three and name in other[1:4]:
            return False
    return True


def how_many_go(pairs):
    """For each name to which some state goes how many go to it; nobody alone goes to nobody."""
    many = {NOBODY: 1}
    for state, name in pairs:
        many[name] = many.get(name, 0) + 1
    return many


def goes_alike(one, other, pairs):
    """Whether what comes behind in the one table goes to what comes in the other behind those to which they go."""
    goes = dict(pairs)
    goes[NOBODY] = NOBODY
    news = {row[:3]: row[3] for row in other[4]}
    met = {}
    for left, own, right, new in one[4]:
        facing = (goes[left], goes[own], goes[right])
        if news.get(facing, goes[own]) != goes[new]:
            return False
        met[facing] = met.get(facing, 0) + 1
    # Where the other has a row, own doesn't stay: so all that go there need rows of the one too. They are counted,
    # for there may be far too many to walk.
    many = how_many_go(pairs)
    for facing in news:
        asked = many.get(facing[0], 0) * many.get(facing[1], 0) * many.get(facing[2], 0)
        if met.get(facing, 0) != asked:
            return False
    return True


def shows_fold(one, other, thing):
    """Whether the thing is a fold of the one table into the other."""
    if not is_table(one) or not is_table(other):
        raise NoMachine("a fold is asked of what is no table")
    if not are_pairs_for(thing, names_in(one)):
        return False
    return keeps_three(one, other, thing) and goes_alike(one, other, thing)


def parted(states, looks):
    """The least of the states that look the same, for each of these rising states."""
    least = {}
    goes = {}
    for state in states:
        goes[state] = least.setdefault(looks[state], state)
    return goes


def looks_by(table, goes):
    """What tells states apart, where those that go to the same are held for the same."""
    told = {state: [] for state in goes}
    for left, own, right, new in table[4]:
        if goes[own] == goes[new]:
            continue
        told[own].append(("own", left, right, goes[new]))
        if left != NOBODY:
            told[left].append(("left", own, right, goes[new]))
        if right != NOBODY:
            told[right].append(("right", left, own, goes[new]))
    return {state: (goes[state], tuple(sorted(told[state]))) for state in goes}


def coarsest(table, states):
    """For each of the table's rising states the least of those that can be held for the same."""
    three = table[1:4]
    goes = parted(states, {state: state if state in three else NOBODY for state in states})
    finer = parted(states, looks_by(table, goes))
    # All are held for the same at first; what is told apart may tell more apart, till nothing more is.
    while finer != goes:
        goes = finer
        finer = parted(states, looks_by(table, goes))
    return goes


def folded(table):
    """The table of the fewest states into which this one can be folded, and the fold."""
    if not is_table(table):
        raise NoMachine("what is no table can't be folded")
    states = names_in(table)
    goes = coarsest(table, states)
    pairs = tuple([(state, goes[state]) for state in states])
    goes[NOBODY] = NOBODY
    rows = [tuple([goes[name] for name in row]) for row in table[4] if goes[row[1]] != goes[row[3]]]
    return (table[:4] + (tuple(sorted(set(rows))),), pairs)
