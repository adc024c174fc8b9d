"""Machines: tables, and what is put together of them."""

from firetogether.errors import NoMachine
from firetogether.kinds import is_between, is_tuple_of
from firetogether.tables import is_table, names_in

DEEPEST = 4
MOST_COUNT = 60
LEAST_COUNT = {"later": 0, "slowed": 1}
PARTS = {"mirrored": 1, "later": 1, "slowed": 1, "both": 2, "either": 2}


def has_form(thing):
    """Whether the thing is put together as a machine is, whatever its parts are."""
    if not isinstance(thing, tuple) or len(thing) == 0:
        return False
    word = thing[0]
    if not isinstance(word, str) or word not in PARTS:
        return False
    if word in LEAST_COUNT:
        return len(thing) == 2 + PARTS[word] and is_between(thing[1], LEAST_COUNT[word], MOST_COUNT)
    return len(thing) == 1 + PARTS[word]


def parts_of(machine):
    """The tuple of the machines of which one that has such a form is put together."""
    if machine[0] in LEAST_COUNT:
        return machine[2:]
    return machine[1:]


def is_machine_within(thing, deep):
    """Whether the thing is a machine that is at most so deep."""
    # The bound is asked first: what is nested deeper is not looked into.
    if deep == 0:
        return False
    if is_table(thing):
        return True
    return has_form(thing) and all([is_machine_within(part, deep - 1) for part in parts_of(thing)])


def is_machine(thing):
    """Whether the thing is a machine."""
    return is_machine_within(thing, DEEPEST)


def need_machine(thing):
    """Refuses what is no machine."""
    if not is_machine(thing):
        raise NoMachine("this is no machine")


def part_at(state, at):
    """What stands at this place of a pair; where nobody is, nobody is for each part either."""
    return None if state is None else state[at]


class TableWorks:
    """How a table goes on."""

    def __init__(self, table):
        self.calm = table[1]
        self.opening = table[2]
        self.firing = table[3]
        self.states = names_in(table)
        # An end is the empty text in a table, but None for those who ask.
        self.news = {(left or None, own, right or None): new for left, own, right, new in table[4]}

    def quiet(self):
        return self.calm

    def start(self):
        return self.opening

    def fires(self, state):
        return state == self.firing

    def behind(self, left, own, right):
        return self.news.get((left, own, right), own)

    def holds(self, thing):
        return isinstance(thing, str) and thing in self.states


class MirroredWorks:
    """How a machine goes on the other way about."""

    def __init__(self, part):
        self.part = part

    def quiet(self):
        return self.part.quiet()

    def start(self):
        return self.part.start()

    def fires(self, state):
        return self.part.fires(state)

    def behind(self, left, own, right):
        return self.part.behind(right, own, left)

    def holds(self, thing):
        return self.part.holds(thing)


class LaterWorks:
    """How a machine goes on that fires so many beats later: its pairs count the beats of firing."""

    def __init__(self, most, part):
        self.most = most
        self.part = part

    def quiet(self):
        return (self.part.quiet(), 0)

    def start(self):
        return (self.part.start(), 0)

    def fires(self, state):
        return state[1] == self.most and self.part.fires(state[0])

    def behind(self, left, own, right):
        new = self.part.behind(part_at(left, 0), own[0], part_at(right, 0))
        if self.part.fires(own[0]):
            return (new, min(self.most, own[1] + 1))
        return (new, 0)

    def holds(self, thing):
        return is_tuple_of(thing, 2) and self.part.holds(thing[0]) and is_between(thing[1], 0, self.most)


class SlowedWorks:
    """How a machine goes on that steps at every so many beats: its pairs count the beats between."""

    def __init__(self, count, part):
        self.most = count - 1
        self.part = part
        self.calm = (part.quiet(), 0)

    def quiet(self):
        return self.calm

    def start(self):
        return (self.part.start(), 0)

    def fires(self, state):
        return self.part.fires(state[0])

    def behind(self, left, own, right):
        awake = [state for state in (left, own, right) if state is not None and state != self.calm]
        if len(awake) == 0:
            return own
        number = awake[0][1]
        if number == self.most:
            return (self.part.behind(part_at(left, 0), own[0], part_at(right, 0)), 0)
        if own == self.calm:
            return own
        return (own[0], number + 1)

    def holds(self, thing):
        return is_tuple_of(thing, 2) and self.part.holds(thing[0]) and is_between(thing[1], 0, self.most)


class PairWorks:
    """How two machines go on side by side, each by itself."""

    def __init__(self, one, other, needs_both):
        self.one = one
        self.other = other
        self.needs_both = needs_both

    def quiet(self):
        return (self.one.quiet(), self.other.quiet())

    def start(self):
        return (self.one.start(), self.other.start())

    def fires(self, state):
        if self.needs_both:
            return self.one.fires(state[0]) and self.other.fires(state[1])
        return self.one.fires(state[0]) or self.other.fires(state[1])

    def behind(self, left, own, right):
        return (
            self.one.behind(part_at(left, 0), own[0], part_at(right, 0)),
            self.other.behind(part_at(left, 1), own[1], part_at(right, 1)),
        )

    def holds(self, thing):
        return is_tuple_of(thing, 2) and self.one.holds(thing[0]) and self.other.holds(thing[1])


def works_of(machine):
    """The works of what is known to be a machine."""
    word = machine[0]
    if word == "table":
        return TableWorks(machine)
    parts = [works_of(part) for part in parts_of(machine)]
    if word == "mirrored":
        return MirroredWorks(parts[0])
    if word == "later":
        return LaterWorks(machine[1], parts[0])
    if word == "slowed":
        return SlowedWorks(machine[1], parts[0])
    return PairWorks(parts[0], parts[1], word == "both")


class Works:
    """How a machine goes on, whichever it is; an end is None."""

    def __init__(self, machine):
        need_machine(machine)
        self.inner = works_of(machine)

    def quiet(self):
        """The state of a hand that has not begun."""
        return self.inner.quiet()

    def start(self):
        """The state of the hand that begins."""
        return self.inner.start()

    def fires(self, state):
        """Whether this state fires."""
        return self.inner.fires(state)

    def behind(self, left, own, right):
        """The state that comes behind own between left and right."""
        return self.inner.behind(left, own, right)

    def holds(self, thing):
        """Whether the thing is a state of the machine."""
        return self.inner.holds(thing)
