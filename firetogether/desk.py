"""The desk: machines kept by names, and asked by lines of words."""

from firetogether.beats import row_beat
from firetogether.errors import NoKept, NoLine, NoWords
from firetogether.hastes import haste
from firetogether.judging import judged
from firetogether.names import names_for
from firetogether.nearness import bar
from firetogether.posts import posts
from firetogether.reading import number_written, read_machine
from firetogether.rings import ring_first
from firetogether.rows import row_first, row_to
from firetogether.seen import seen
from firetogether.showing import show_machine, show_row
from firetogether.tables import is_name
from firetogether.told import told_row

MOST_FIGURES = 60
# What stands behind the first word of a line, but of keep: a name, and numbers of these kinds. A hand is one of the
# row or ring whose length stands ahead of it.
FORMS = {
    "drop": ("name",),
    "names": (),
    "show": ("name",),
    "first": ("name", "length", "hand", "beat"),
    "ring": ("name", "round", "hand", "beat"),
    "row": ("name", "length", "hand", "beat"),
    "judge": ("name", "length", "beat"),
    "haste": ("name", "length", "hand"),
    "plays": ("name",),
    "told": ("name", "many", "hand"),
    "beat": ("many",),
    "bar": ("many", "hand"),
    "seen": ("many", "hand", "any"),
    "posts": ("many", "any"),
}
LEAST = {"length": 1, "round": 3, "hand": 0, "beat": 0, "many": 1, "any": 0}
MOST = {"length": 30, "round": 30, "beat": 200}


def joined(things):
    """The words and numbers of a tuple, with one blank between; none where there is no tuple."""
    return "none" if things is None else " ".join([str(thing) for thing in things])


def tell_show(machine, numbers):
    return show_machine(machine)


def tell_first(machine, numbers):
    n, k, late = numbers
    return joined(row_first(machine, n, k, late))


def tell_ring(machine, numbers):
    n, k, late = numbers
    return joined(ring_first(machine, n, k, late))


def tell_row(machine, numbers):
    n, k, t = numbers
    return show_row(row_to(machine, n, k, t)[t])


def tell_judge(machine, numbers):
    most, late = numbers
    found = judged(machine, most, late)
    return joined(("right",) + found[1] if found[0] == "right" else found)


def tell_haste(machine, numbers):
    n, k = numbers
    return joined(haste(machine, n, k))


def tell_plays(machine, numbers):
    return "no" if names_for(machine) is None else "yes"


def tell_told(machine, numbers):
    n, k = numbers
    beat = told_row(machine, n, k)
    return "none" if beat is None else str(beat)


def tell_beat(numbers):
    return str(row_beat(numbers[0]))


def tell_bar(numbers):
    n, k = numbers
    return str(bar(n, k))


def tell_seen(numbers):
    n, x, t = numbers
    return seen(n, x, t)


def tell_posts(numbers):
    n, t = numbers
    return str(posts(n, t))


OF_MACHINES = {
    "show": tell_show, "first": tell_first, "ring": tell_ring, "row": tell_row, "judge": tell_judge,
    "haste": tell_haste, "plays": tell_plays, "told": tell_told,
}
OF_NUMBERS = {"beat": tell_beat, "bar": tell_bar, "seen": tell_seen, "posts": tell_posts}


def read_number(kind, word, ahead):
    """The number of this kind that the word writes, behind those ahead of it."""
    number = number_written(word, MOST_FIGURES)
    if number is None or not LEAST[kind] <= number <= MOST.get(kind, number):
        raise NoLine("no such number stands here")
    if kind == "hand" and number >= ahead[-1]:
        raise NoLine("this is no hand of the row or ring")
    return number


def read_line(words):
    """The name in the words of a line, None where it has none, and the list of its numbers."""
    form = FORMS.get(words[0])
    if form is None or len(words) != len(form) + 1:
        raise NoLine("there is no such line")
    name = None
    numbers = []
    for kind, word in zip(form, words[1:]):
        if kind != "name":
            numbers.append(read_number(kind, word, numbers))
        elif is_name(word):
            name = word
        else:
            raise NoLine("this is no name")
    return (name, numbers)


def read_keep(words):
    """The name and the machine in the words of a line that keeps one."""
    if len(words) < 3 or not is_name(words[1]):
        raise NoLine("a name and a machine are kept")
    try:
        return (words[1], read_machine(" ".join(words[2:])))
    except NoWords:
        raise NoLine("this is not just so written of a machine") from None


class Desk:
    """Machines kept by names; lines are said to it, and it tells texts."""

    def __init__(self):
        self.kept = {}

    def say(self, line):
        """What is told of this line."""
        if not isinstance(line, str):
            raise NoLine("a line is a text")
        words = line.split(" ")
        if words[0] == "keep":
            name, machine = read_keep(words)
            self.kept[name] = machine
            return "kept"
        name, numbers = read_line(words)
        if words[0] == "names":
            return " ".join(sorted(self.kept)) or "-"
        if words[0] in OF_NUMBERS:
            deed = OF_NUMBERS[words[0]]
            return deed(numbers)
        return self.say_of(words[0], name, numbers)

    def say_of(self, word, name, numbers):
        """What is told of a line by this first word about the machine of this name."""
        if name not in self.kept:
            raise NoKept("no machine is kept by this name")
        if word == "drop":
            self.kept.pop(name)
            return "dropped"
        deed = OF_MACHINES[word]
        return deed(self.kept[name], numbers)
