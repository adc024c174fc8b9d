"""Machines and rows, read from what is written of them."""

from firetogether.errors import NoWords
from firetogether.machines import DEEPEST, LEAST_COUNT, PARTS, Works, is_machine
from firetogether.showing import END, STOP, house_words, show_machine, show_row
from firetogether.tables import NOBODY

FIGURES = "0123456789"
# No count of a machine, and no number of a state, has more figures.
COUNT_FIGURES = 2


def number_written(word, most):
    """The whole number that the word writes by at most so many figures; None where it writes none."""
    # Asked ahead of reckoning: Python itself refuses numbers of very many figures.
    if not 1 <= len(word) <= most or not all([sign in FIGURES for sign in word]):
        return None
    if len(word) > 1 and word[0] == "0":
        return None
    return int(word)


def table_at(words, at):
    """The table whose words begin at this place, and the place behind them."""
    end = at + 4
    while end < len(words) and words[end] != STOP:
        end += 1
    if end >= len(words) or (end - at) % 4 != 0:
        raise NoWords("the words of a table don't end so")
    names = [NOBODY if word == END else word for word in words[at + 4:end]]
    rows = tuple([tuple(names[k:k + 4]) for k in range(0, len(names), 4)])
    return (tuple(words[at:at + 4]) + (rows,), end + 1)


def machine_at(words, at, deep):
    """The machine, at most so deep, whose words begin at this place, and the place behind them."""
    # The bound is asked first: what leads deeper is not followed.
    if deep == 0 or at >= len(words):
        raise NoWords("a machine is missing, or stands too deep")
    word = words[at]
    houses = dict(house_words())
    if word in houses:
        return (houses[word], at + 1)
    if word == "table":
        return table_at(words, at)
    if word not in PARTS:
        raise NoWords("no machine is written so")
    machine = (word,)
    at += 1
    if word in LEAST_COUNT and at < len(words):
        machine += (number_written(words[at], COUNT_FIGURES),)
        at += 1
    for step in range(PARTS[word]):
        part, at = machine_at(words, at, deep - 1)
        machine += (part,)
    return (machine, at)


def read_machine(text):
    """The machine that the text writes."""
    if not isinstance(text, str):
        raise NoWords("a machine is written as a text")
    machine = machine_at(text.split(" "), 0, DEEPEST)[0]
    # Written again it is the same text, or it was not just so written.
    if not is_machine(machine) or show_machine(machine) != text:
        raise NoWords("this is not just so written of a machine")
    return machine


def states_written(text):
    """The tuple of what may be states, by their names, brackets and figures."""
    # The last list is that of the innermost bracket which is not closed yet; the first one is the row.
    held = [[]]
    for word in text.replace("(", "( ").replace(")", " )").split(" "):
        if word == "(":
            held.append([])
        elif word == ")":
            pair = tuple(held.pop())
            if len(held) == 0:
                raise NoWords("a bracket too many is closed")
            held[-1].append(pair)
        else:
            number = number_written(word, COUNT_FIGURES)
            held[-1].append(word if number is None else number)
        if len(held) > DEEPEST:
            raise NoWords("no state has brackets so deep")
    if len(held) != 1:
        raise NoWords("a bracket is not closed")
    return tuple(held[0])


def read_row(machine, text):
    """The tuple of the machine's states that the text writes."""
    works = Works(machine)
    if not isinstance(text, str):
        raise NoWords("a row is written as a text")
    row = states_written(text)
    if not all([works.holds(state) for state in row]) or show_row(row) != text:
        raise NoWords("this is not just so written of states of the machine")
    return row
