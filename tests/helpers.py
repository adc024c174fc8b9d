"""What the tests share: machines, things of any kind, and a second, plain telling of how machines go on."""

import random

HOUSE_TEXT = """
- g o ga, o g o ga, o g g ga, g g o ga, - g - f, p g p f, p g g f, g g p f
- ga r gb, l ga r gb, l ga ga gb, ga ga r gb, - ga h f
- gb o p, o gb o p, o gb gb p, gb gb o p
r p l h, - p l h, r p - h, r p p h, p p l h
- p g f, g p - f, g p g f, g p p f, p p g f
o h o p, o h - p, - h o p, o h h p, h h o p, ga h - f
g o o r, g o p r, r o o r, r o p r, h o o r, h o la r, r o la r
o o g l, p o g l, o o l l, p o l l, o o h l, ra o h l, ra o l l
gb o h g, h o gb g, rc o l g, r o lc g
gb o r ra, rc o o ra, l o gb la, o o lc la
r o - h, g o - h
ga r o o, ga r p o, o r o o, o r p o, p r o o, p r lb g, o r lb g
o l ga o, p l ga o, o l o o, p l o o, o l p o, rb l p g, rb l o g
p ra o rb, o ra o rb, p rb o rc, o rb o rc, p rb l g, o rb l g, p rc o o, o rc o o
o la p lb, o la o lb, o lb p lc, o lb o lc, r lb p g, r lb o g, o lc p o, o lc o o
o w o wa, o wa r wb, o wb o p, r wb o k
w o o r, r o wa r, r o wb r, wa r o o, o r wb o, wb o r ra
r p ra k, r p rb k, r p rc k, r p o k
o k ra p, o k rb p, o k rc p, o k o p
o o k l, ra o k l, k ra o rb, k rb o rc, k rc o o
o o m m, - o m m, o m o o, o m - o, - m o g, - m - g
"""


# Lengths of sixty figures or so, of rows that can't be run; by halving some come to odd numbers alone, or even ones.
BIGS = (10 ** 59, 10 ** 59 + 7, 10 ** 60 - 1, 10 ** 61 - 1, 2 ** 199, 2 ** 199 + 1, 2 ** 199 + 2)


def rows_of(text):
    """The rising tuple of rows written as `left own right new`, parted by commas or lines."""
    rows = [part.split() for line in text.split("\n") for part in line.split(",") if part.strip()]
    return tuple(sorted(tuple("" if word == "-" else word for word in row) for row in rows))


def house(start):
    return ("table", "o", start, "f", rows_of(HOUSE_TEXT))


def house_beat(n):
    """The beat at which a row of n fires, started at its left end with g."""
    u = n - 1
    return n if n < 3 else 3 * u - bin(u).count("1") - 1


def house_ring_beat(n):
    return 3 * n - bin(n).count("1") - 1


def counting(beats):
    """A table whose hands count down from the start: who is less than so far off fires at this beat.

    The hands at distance `beats` are reached at that very beat, and fire too.
    """
    names = ["start"] + ["c" + "abcdefghijklmnopqrstuvwxyz"[at] for at in range(beats - 1)] + ["fire"]
    rows = {}
    for now, then in zip(names, names[1:]):
        for left in (now, "quiet", ""):
            for right in (now, "quiet", ""):
                rows[(left, now, right)] = then
        for other in (now, "quiet", ""):
            rows[(now, "quiet", other)] = then
            rows[(other, "quiet", now)] = then
    return ("table", "quiet", "start", "fire", tuple(sorted(key + (new,) for key, new in rows.items())))


BARE = ("table", "quiet", "start", "fire", ())
# Each hand fires as soon as its left neighbour is the start: a machine that tells left from right.
LEANING = ("table", "o", "g", "f", (("g", "o", "", "f"), ("g", "o", "o", "f")))
# The start goes to and fro between two states and no other hand stirs.
BLINKING = ("table", "o", "g", "f", rows_of("- g - b, - b - g, - g o b, - b o g, o g - b, o b - g, o g o b, o b o g"))


class Odd:
    """A thing of a kind of its own."""


def brief(thing, most=3):
    """Words for a thing, also for one whose parts are shared so often that its repr would never end."""
    if isinstance(thing, (tuple, list)):
        parts = [brief(part, most - 1) for part in thing[:6]] if most > 0 else [".."]
        return type(thing).__name__ + "(" + ", ".join(parts) + ")"
    return repr(thing)[:60]


def deep(thing, many, wrap):
    for turn in range(many):
        thing = wrap(thing)
    return thing


def anythings():
    """Things of any kind, none of which is a name, a table, a machine, a state or a haste."""
    table = house("g")
    return [
        None, True, False, 0, 1, -1, 10 ** 60, "", " ", "A", "table!", "abcdefghi", "ab c", "a\n", "\u00e9", "a%",
        b"", b"a", b"table", [], {}, (), set(), frozenset(), Odd(), Odd, len, range(3), object(),
        (None,), (True,), ((),), ([],), ({},), [table], {"table": table}, {1: 2}, list(table), (table,), (table, table),
        ("table",), ("Table",) + table[1:], (b"table",) + table[1:], table[1:], table + ((),), table[:4], ("mirrored",),
        ("mirrored", None), ["mirrored", table], (["mirrored"], table), ({}, table), (None, table), (0, table),
        deep((), 29, lambda thing: (thing,)), deep([], 29, lambda thing: [thing]),
        deep({}, 29, lambda thing: {"a": thing}), deep(table, 26, lambda thing: ("mirrored", thing)),
        deep(table, 26, lambda thing: ("both", thing, thing)), deep((), 28, lambda thing: ("either", thing, thing)),
        deep("a", 28, lambda thing: (thing, 0)),
    ]


# How machines go on, told once more straight from the document, without objects or keeping.

def ref_quiet(machine):
    return ref_one(machine, 1)


def ref_start(machine):
    return ref_one(machine, 2)


def ref_one(machine, at):
    word = machine[0]
    if word == "table":
        return machine[at]
    if word == "mirrored":
        return ref_one(machine[1], at)
    if word in ("later", "slowed"):
        return (ref_one(machine[2], at), 0)
    return (ref_one(machine[1], at), ref_one(machine[2], at))


def ref_fires(machine, state):
    word = machine[0]
    if word == "table":
        return state == machine[3]
    if word == "mirrored":
        return ref_fires(machine[1], state)
    if word == "later":
        return state[1] == machine[1] and ref_fires(machine[2], state[0])
    if word == "slowed":
        return ref_fires(machine[2], state[0])
    told = [ref_fires(machine[1], state[0]), ref_fires(machine[2], state[1])]
    return all(told) if word == "both" else any(told)


def ref_behind(machine, left, own, right):
    word = machine[0]
    if word == "table":
        for row in machine[4]:
            if row[:3] == (left or "", own, right or ""):
                return row[3]
        return own
    if word == "mirrored":
        return ref_behind(machine[1], right, own, left)
    firsts = [state if state is None else state[0] for state in (left, own, right)]
    if word == "later":
        new = ref_behind(machine[2], *firsts)
        return (new, min(machine[1], own[1] + 1) if ref_fires(machine[2], own[0]) else 0)
    if word == "slowed":
        awake = [state for state in (left, own, right) if state not in (None, ref_quiet(machine))]
        if not awake:
            return own
        if awake[0][1] < machine[1] - 1:
            return own if own == ref_quiet(machine) else (own[0], awake[0][1] + 1)
        return (ref_behind(machine[2], *firsts), 0)
    seconds = [state if state is None else state[1] for state in (left, own, right)]
    return (ref_behind(machine[1], *firsts), ref_behind(machine[2], *seconds))


def ref_run(machine, n, k, beats, ring):
    """The list of the rows at beat 0 to beats."""
    row = [ref_start(machine) if x == k else ref_quiet(machine) for x in range(n)]
    rows = [tuple(row)]
    for beat in range(beats):
        row = [
            ref_behind(machine, row[x - 1] if ring or x > 0 else None, row[x],
                       row[(x + 1) % n] if ring or x + 1 < n else None)
            for x in range(n)
        ]
        rows.append(tuple(row))
    return rows


def ref_first(machine, n, k, late, ring):
    rows = ref_run(machine, n, k, late, ring)
    for t in range(late + 1):
        firing = [ref_fires(machine, state) for state in rows[t]]
        if any(firing):
            return ("all" if all(firing) else "some", t)
        if rows[t] in rows[:t]:
            return ("never", t)
    return ("late", late)


def ref_states(machine):
    """All states of a machine, in a list."""
    word = machine[0]
    if word == "table":
        names = {name for row in machine[4] for name in row if name} | set(machine[1:4])
        return sorted(names)
    if word == "mirrored":
        return ref_states(machine[1])
    if word == "later":
        return [(state, i) for state in ref_states(machine[2]) for i in range(machine[1] + 1)]
    if word == "slowed":
        return [(state, p) for state in ref_states(machine[2]) for p in range(machine[1])]
    return [(one, other) for one in ref_states(machine[1]) for other in ref_states(machine[2])]


def chance_table(rng):
    """A table made by chance, of few states, so that its rows stir."""
    names = ["o", "g", "f", "a", "b"][:rng.choice([3, 4, 5])]
    rows = []
    for own in names:
        for left in [""] + names:
            for right in [""] + names:
                calm = own == "o" and left in ("", "o") and right in ("", "o")
                if own == "f" or calm or rng.random() < 0.3:
                    continue
                firing = ["f"] if rng.random() < 0.2 else []
                rows.append((left, own, right, rng.choice(
                    [name for name in names if name not in (own, "f")] + firing or ["f"])))
    return ("table", "o", "g", "f", tuple(sorted(rows)))


def chance_machine(rng, most_deep):
    """A machine made by chance, at most so deep."""
    word = rng.choice(["table", "mirrored", "later", "slowed", "both", "either"])
    if most_deep == 1 or word == "table":
        return chance_table(rng)
    if word == "mirrored":
        return (word, chance_machine(rng, most_deep - 1))
    if word in ("later", "slowed"):
        return (word, rng.choice([1, 2, 3]), chance_machine(rng, most_deep - 1))
    return (word, chance_machine(rng, most_deep - 1), chance_machine(rng, most_deep - 1))


def chance_machines(many, most_deep, seed):
    rng = random.Random(seed)
    return [chance_machine(rng, most_deep) for turn in range(many)]


def stirring_places(n, rng):
    """Hands and beats of a row of n of the house at which something goes on: posts, waves, and where they meet.

    By a plain halving of the row, along one way down made by chance; of the many levels some are looked at.
    """
    told = {(0, 0), (n - 1, 0), (n // 2, n // 3), (rng.randrange(n), rng.randrange(3 * n))}
    begin, end, side, begun = 0, n - 1, 0, 0
    while end - begin > 1:
        far = end - begin
        met = begun + (3 * far + 1) // 2
        if begun == 0 or far < 30 or rng.random() < 0.05:
            for age in (0, 1, 2, 3, far // 2, far - 1, far, far + 1, far + far // 4, met - begun - 1):
                for off in (0, age, 2 * far - age, age // 3, far):
                    if 0 <= off <= far:
                        told.add((begin + off if side == 0 else end - off, begun + age))
        side = rng.choice([0, 1])
        begin, end = (begin + (far + 1) // 2, end) if side == 0 else (begin, begin + far // 2)
        begun = met
    return sorted(told | {(begin, begun), (end, begun), (begin, begun + 1)})


def renamed(table, names):
    """The table under other names; those that are not told stay."""
    new = lambda name: names.get(name, name)
    rows = {tuple(new(name) for name in row) for row in table[4]}
    return table[:1] + tuple(new(name) for name in table[1:4]) + (tuple(sorted(rows)),)


def without(table, at):
    """The table with the row at this place left out."""
    return table[:4] + (table[4][:at] + table[4][at + 1:],)


def exchanged(table, at, new):
    """The table whose row at this place has another new."""
    return table[:4] + (table[4][:at] + (table[4][at][:3] + (new,),) + table[4][at + 1:],)
