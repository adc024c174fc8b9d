"""The refusals."""


class FireError(ValueError):
    """Something was refused."""


class NoMachine(FireError):
    """What was handed in as a machine, or as a table, is none."""


class NoTree(FireError):
    """What was handed in as a tree is none, or the hand is none of its hands."""


class NoWords(FireError):
    """The text is not just so written of a machine or of a row."""


class NoLine(FireError):
    """The desk knows no such line."""


class NoKept(FireError):
    """The desk keeps no machine by this name."""
