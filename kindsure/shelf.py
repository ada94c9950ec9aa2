"""Kinds under numbers, for the judge.

The kinds of a program can double with every let, every deed and every round of an again, though
few of the kinds within are unlike. So each kind stands on a shelf once, under a number, and its
parts stand there under numbers of their own.
"""

from kindsure.kinds import make_of, met_of, pairs_within, parts_of


class Shelf:
    """Kinds by their numbers: equal kinds have one number, and each part a lower one than its whole."""

    def __init__(self):
        # Kinds as in [3], but with a number for each part.
        self.kinds = []
        self.numbers = {}

    def place(self, kind):
        """The number of a kind whose parts are numbers."""
        key = (make_of(kind), tuple(sorted(parts_of(kind).items())))
        if key not in self.numbers:
            self.numbers[key] = len(self.kinds)
            self.kinds.append(kind)
        return self.numbers[key]

    def place_whole(self, kind):
        """The number of a kind whose parts are kinds."""
        rows = laid_out(kind)
        parts = [{} for _ in rows]
        number = 0
        # From the end, so that the numbers of the parts of a kind are known ahead of the kind.
        for at in range(len(rows) - 1, -1, -1):
            here, whole, name = rows[at]
            number = self.place(with_parts(here, parts[at]))
            if at > 0:
                parts[whole][name] = number
        return number

    def whole(self, number):
        """The kind of the number, with kinds as its parts."""
        found = []
        for kind in self.kinds[:number + 1]:
            parts = {name: found[part] for name, part in parts_of(kind).items()}
            found.append(with_parts(kind, parts))
        return found[number]

    def meeting(self, one, other):
        """The number of the meeting of two kinds; None where there is none."""
        met = {}
        # Of a pair within, the greater number is lower than that of the pair itself, so it comes ahead.
        for first, second in sorted(self.pairs_from(one, other), key=max):
            kind = self.kinds[first]
            against = self.kinds[second]
            within = pairs_within(kind, against)
            found = met_of(kind, against, {name: met[pair] for name, pair in within.items()})
            met[(first, second)] = None if found is None else self.place(found)
        return met[(one, other)]

    def pairs_from(self, one, other):
        """The pair and all pairs within it, each of them once."""
        pairs = [(one, other)]
        seen = {(one, other): True}
        at = 0
        while at < len(pairs):
            first, second = pairs[at]
            for pair in pairs_within(self.kinds[first], self.kinds[second]).values():
                if pair not in seen:
                    seen[pair] = True
                    pairs.append(pair)
            at += 1
        return pairs

    def fits(self, one, other):
        """Whether the first kind fits the other one: just then the other one is their meeting."""
        return self.meeting(one, other) == other


def laid_out(kind):
    """The kind and all kinds within it, each behind its whole, with the whole's place and its name there."""
    rows = [(kind, 0, "")]
    at = 0
    while at < len(rows):
        parts = parts_of(rows[at][0])
        rows.extend([(part, at, name) for name, part in parts.items()])
        at += 1
    return rows


def with_parts(kind, parts):
    """A kind of the same make with these parts."""
    if isinstance(kind, str):
        return kind
    return (kind[0], parts)
