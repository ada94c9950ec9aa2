"""Which values are of a kind, which kind fits another one, and in which kind two kinds meet.

Nothing limits how deep a value or a kind may be nested. So the functions here keep lists of
what is still to be looked at instead of calling themselves.
"""

from kindsure.errors import Unlike

MOST = 1000000000000


def is_of(value, kind):
    """Whether the value is of the kind."""
    return holds_throughout(value, kind, asked_of_value)


def fits(kind, other):
    """Whether every value of the kind is of the other kind."""
    return holds_throughout(kind, other, asked_of_kind)


def meeting(kind, other):
    """The kind that both fit and that fits every other one that both fit; else Unlike."""
    top = Pair(kind, other)
    pairs = all_pairs(top)
    # From the end, so that what the parts of a pair come to is known ahead of the pair.
    for pair in reversed(pairs):
        pair.met = met_of(pair.kind, pair.other, {name: part.met for name, part in pair.within.items()})
    if top.met is None:
        raise Unlike("these two kinds have no meeting")
    return top.met


def make_of(kind):
    """The make of a kind: "num", "truth", "record" or "choice"."""
    if isinstance(kind, str):
        return kind
    return kind[0]


def parts_of(kind):
    """The parts of a kind, by their names; a number's and a truth's kind have none."""
    if isinstance(kind, str):
        return {}
    return kind[1]


def holds_throughout(one, other, asked_within):
    """Whether one is what other asks, and so are all pairs that are asked within these two."""
    pending = [(one, other)]
    while pending:
        here, wanted = pending.pop()
        within = asked_within(here, wanted)
        if within is None:
            return False
        pending.extend(within)
    return True


def asked_of_value(value, kind):
    """The pairs (value, kind) within that are asked for; None where the value is not of the kind anyhow."""
    make = make_of(kind)
    parts = parts_of(kind)
    if make == "num":
        return [] if is_number(value) else None
    if make == "truth":
        return [] if isinstance(value, bool) else None
    if make == "record":
        return asked_of_fields(value, parts)
    return asked_of_shape(value, parts)


def is_number(value):
    """Whether the value is a number; for Python, True and False are integers, too."""
    return isinstance(value, int) and not isinstance(value, bool) and -MOST <= value <= MOST


def asked_of_fields(value, parts):
    """What is asked of each field of a record; None where it is no record or lacks a field."""
    if not isinstance(value, dict) or not has_all(value, parts):
        return None
    return [(value[name], parts[name]) for name in parts]


def asked_of_shape(value, parts):
    """What is asked of a choice's value; None where it is no choice or has another shape."""
    if not isinstance(value, tuple):
        return None
    shape, content = value
    if shape not in parts:
        return None
    return [(content, parts[shape])]


def asked_of_kind(kind, other):
    """The pairs of kinds within of which one must fit the other; None where kind does not fit anyhow."""
    if make_of(kind) != make_of(other):
        return None
    mine = parts_of(kind)
    theirs = parts_of(other)
    if make_of(kind) == "record":
        narrow, wide = theirs, mine
    else:
        narrow, wide = mine, theirs
    if not has_all(wide, narrow):
        return None
    return [(mine[name], theirs[name]) for name in narrow]


def has_all(table, names):
    """Whether the table has every one of the names."""
    return all([name in table for name in names])


class Pair:
    """Two kinds that are to meet, the pairs of their parts by name, and what the two come to."""

    def __init__(self, kind, other):
        self.kind = kind
        self.other = other
        self.within = {}
        self.met = None


def all_pairs(top):
    """The pair and all pairs within it, each one behind the pair of which it is a part."""
    pairs = [top]
    at = 0
    while at < len(pairs):
        pair = pairs[at]
        within = pairs_within(pair.kind, pair.other)
        pair.within = {name: Pair(one, two) for name, (one, two) in within.items()}
        pairs.extend(list(pair.within.values()))
        at += 1
    return pairs


def pairs_within(kind, other):
    """The pairs of parts whose meetings stand in the meeting of the two kinds, by their names."""
    mine = parts_of(kind)
    theirs = parts_of(other)
    if make_of(kind) != make_of(other):
        return {}
    if make_of(kind) == "record":
        return {name: (mine[name], theirs[name]) for name in mine if name in theirs}
    # A shape of one side alone meets itself, so that what is told shares nothing with what was handed in.
    first = {**theirs, **mine}
    second = {**mine, **theirs}
    return {name: (first[name], second[name]) for name in second}


def met_of(kind, other, met):
    """The meeting of two kinds, or None; met has that of every pair within, or None, by its name."""
    make = make_of(kind)
    if make != make_of(other):
        return None
    if make == "num" or make == "truth":
        return make
    parts = {name: part for name, part in met.items() if part is not None}
    if make == "choice" and len(parts) < len(met):
        return None
    return (make, parts)
