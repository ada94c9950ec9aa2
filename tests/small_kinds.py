"""Kinds and values for the tests: short names for them, and small worlds that hold all of a few makes."""

from itertools import product

NUM = "num"
TRUTH = "truth"
MOST = 1000000000000


def rec(**parts):
    return ("record", parts)


def cho(**parts):
    return ("choice", parts)


def tables(names, entries):
    """Every dict from some of the names to some of the entries."""
    found = []
    for row in product([None, *range(len(entries))], repeat=len(names)):
        found.append({name: entries[at] for name, at in zip(names, row) if at is not None})
    return found


def kinds_over(names, inner):
    """Every record's and every choice's kind with these names and the inner kinds."""
    parts = tables(names, inner)
    return [("record", dict(row)) for row in parts] + [("choice", dict(row)) for row in parts if row]


def values_over(names, inner):
    """Every record and every choice with these names and the inner values."""
    choices = [(shape, value) for shape in names for value in inner]
    return [dict(row) for row in tables(names, inner)] + choices


FLAT_KINDS = [NUM, TRUTH]
LOW_KINDS = FLAT_KINDS + kinds_over(["a"], FLAT_KINDS)
WIDE_KINDS = FLAT_KINDS + kinds_over(["a", "b", "c"], FLAT_KINDS)
DEEP_KINDS = FLAT_KINDS + kinds_over(["a", "b"], LOW_KINDS)

FLAT_VALUES = [0, True]
LOW_VALUES = FLAT_VALUES + values_over(["a"], FLAT_VALUES)
WIDE_VALUES = FLAT_VALUES + values_over(["a", "b", "c"], FLAT_VALUES)
DEEP_VALUES = FLAT_VALUES + values_over(["a", "b"], LOW_VALUES)

WORLDS = [(WIDE_KINDS, WIDE_VALUES), (DEEP_KINDS, DEEP_VALUES)]


def many_names(count):
    """As many names, each of one to twelve small letters."""
    letters = "abcdefghijklmnopqrstuvwxyz"
    return [first + second + third for first, second, third in product(letters, repeat=3)][:count]


def tower(make, name, depth, bottom):
    """A kind that is nested so deep, with one part on each floor."""
    kind = bottom
    for _ in range(depth):
        kind = (make, {name: kind})
    return kind


def floors(kind):
    """The makes and names of a tower from the top, and its bottom, told without recursion."""
    found = []
    while not isinstance(kind, str):
        make, parts = kind
        (name, kind), = parts.items()
        found.append((make, name))
    return found, kind
