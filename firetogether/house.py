"""The house's machine, whose rows and rings of any length fire."""

from firetogether.tables import NOBODY

# As the document writes them: left own right new, - for an end.
WRITTEN = """
- g o ga, o g o ga, o g g ga, g g o ga, - g - f, p g p f, p g g f, g g p f
- ga r gb, l ga r gb, l ga ga gb, ga ga r gb, - ga h f
- gb o p, o gb o p, o gb gb p, gb gb o p
r p l h, - p l h, r p - h, r p p h, p p l h
- p g f, g p - f, g p g f, g p p f, p p g f
o h o p, o h - p, - h o p, o h h p, h h o p, ga h - f
g o o r, g o p r, r o o r, r o p r, h o o r, h o la r, r o la r
o o g l, p o g l, o o l l, p o l l, o o h l, ra o h l, ra o l l
gb o h g, h o gb g, rc o l g, r o lc g
gb o r ra, rc o o ra, l o gb la, o o lc la
r o - h, g o - h
ga r o o, ga r p o, o r o o, o r p o, p r o o, p r lb g, o r lb g
o l ga o, p l ga o, o l o o, p l o o, o l p o, rb l p g, rb l o g
p ra o rb, o ra o rb, p rb o rc, o rb o rc, p rb l g, o rb l g, p rc o o, o rc o o
o la p lb, o la o lb, o lb p lc, o lb o lc, r lb p g, r lb o g, o lc p o, o lc o o
o w o wa, o wa r wb, o wb o p, r wb o k
w o o r, r o wa r, r o wb r, wa r o o, o r wb o, wb o r ra
r p ra k, r p rb k, r p rc k, r p o k
o k ra p, o k rb p, o k rc p, o k o p
o o k l, ra o k l, k ra o rb, k rb o rc, k rc o o
o o m m, - o m m, o m o o, o m - o, - m o g, - m - g
"""


def house_row(text):
    """The row of a table that is written so."""
    return tuple([NOBODY if word == "-" else word for word in text.split()])


def house_rows():
    """The rising tuple of the rows of the house's tables."""
    lines = WRITTEN.strip().splitlines()
    return tuple(sorted([house_row(text) for line in lines for text in line.split(",")]))


def house_table(start):
    """The house's table with this start."""
    return ("table", "o", start, "f", house_rows())


def row_machine():
    """The table that fires rows started at hand 0."""
    return house_table("g")


def anywhere_machine():
    """The table that fires rows started at any hand."""
    return house_table("m")


def ring_machine():
    """The table that fires rings."""
    return house_table("w")
