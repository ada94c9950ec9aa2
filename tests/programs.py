"""Many small programs, made by a seed: most of them such as a judge may let by, with slips strewn in."""

from random import Random

from small_kinds import MOST, NUM, TRUTH
from trees import name, num, truth

FIELDS, SHAPES, NAMES = "fgh", "rst", "xyz"
NUMBERS = [0, 1, 2, -1, 7, -3, 999, MOST, -MOST, MOST // 300]


class Maker:
    """Programs with deeds, names' kinds and values of these; slips is how often there is one, of 1000."""

    def __init__(self, seed, slips):
        self.chance = Random(seed)
        self.slips = slips
        self.deeds = []

    def program(self):
        """Deeds, the kinds of the names, their values, and a tree."""
        self.deeds = []
        for at in range(self.chance.choice([0, 0, 1, 2, 3])):
            params = [(of, self.kind(2)) for of in NAMES[:self.chance.randrange(4)]]
            told = self.kind(2)
            self.deeds.append(("deed" + "abc"[at], params, self.tree(told, dict(params), 3), told))
        kinds = {of: self.kind(2) for of in NAMES if self.chance.random() < 0.8}
        tree = self.tree(self.kind(2), kinds, 5)
        values = {of: self.value(kind, 2) for of, kind in kinds.items()}
        return [deed[:3] for deed in self.deeds], kinds, values, tree

    def kind(self, depth):
        make = self.chance.choice([NUM, NUM, TRUTH, "record", "record", "choice"] if depth else [NUM, TRUTH])
        if make in (NUM, TRUTH):
            return make
        names = FIELDS if make == "record" else SHAPES
        some = self.chance.sample(names, self.chance.randint(0 if make == "record" else 1, 2))
        return (make, {of: self.kind(depth - 1) for of in some})

    def value(self, kind, depth):
        """A value of the kind; its records may have other fields beside."""
        if kind == NUM:
            return self.chance.choice(NUMBERS)
        if kind == TRUTH:
            return self.chance.random() < 0.5
        make, parts = kind
        if make == "choice":
            shape = self.chance.choice(list(parts))
            return (shape, self.value(parts[shape], depth))
        beside = {of: self.value(self.kind(depth - 1), depth - 1) for of in FIELDS
                  if of not in parts and depth and self.chance.random() < 0.5}
        return {**beside, **{of: self.value(part, depth) for of, part in parts.items()}}

    def tree(self, kind, names, depth):
        """A tree that may well be of the kind in a scope of these names' kinds."""
        if self.chance.randrange(1000) < self.slips:
            kind = self.kind(2)
        fitting = [of for of in names if names[of] == kind]
        if self.chance.randrange(1000) < self.slips:
            fitting = list(NAMES)
        if fitting and self.chance.random() < 0.4:
            return name(self.chance.choice(fitting))
        if depth > 0 and self.chance.random() < 0.6:
            floor = self.chance.choice([self.a_let, self.an_if, self.a_case, self.an_again, self.a_field, self.a_call])
            return floor(kind, names, depth - 1)
        if kind == NUM:
            return self.a_number(names, depth - 1)
        if kind == TRUTH:
            if depth > 0 and self.chance.random() < 0.5:
                return ("less", self.tree(NUM, names, depth - 1), self.tree(NUM, names, depth - 1))
            return truth(self.chance.random() < 0.5)
        if kind[0] == "record":
            return self.a_record(kind[1], names, depth - 1)
        shape = self.chance.choice(list(kind[1]))
        return ("choice", shape, self.tree(kind[1][shape], names, depth - 1))

    def a_number(self, names, depth):
        if depth < 0 or self.chance.random() < 0.4:
            return num(self.chance.choice(NUMBERS))
        word = self.chance.choice(["add", "add", "take", "part"])
        return (word, self.tree(NUM, names, depth), self.tree(NUM, names, depth))

    def a_record(self, parts, names, depth):
        rows = [(of, self.tree(part, names, depth)) for of, part in parts.items()]
        rows += [(of, self.tree(self.kind(1), names, depth)) for of in FIELDS
                 if of not in parts and depth > 0 and self.chance.random() < 0.2]
        self.chance.shuffle(rows)
        if rows and self.chance.random() < 0.3:
            of, last = rows.pop()
            if self.chance.random() < 0.3:
                rows.append((of, self.tree(self.kind(1), names, depth)))
            return ("with", ("record", rows), of, last)
        return ("record", rows)

    def a_let(self, kind, names, depth):
        of, first = self.chance.choice(NAMES), self.kind(2)
        return ("let", of, self.tree(first, names, depth), self.tree(kind, {**names, of: first}, depth))

    def an_if(self, kind, names, depth):
        return ("if", *[self.tree(part, names, depth) for part in (TRUTH, kind, kind)])

    def a_case(self, kind, names, depth):
        shapes = self.chance.sample(SHAPES, self.chance.randint(1, 2))
        looked_at = ("choice", {shape: self.kind(1) for shape in shapes})
        rows = []
        for shape in self.chance.sample(SHAPES, 3):
            of = self.chance.choice(NAMES)
            inner = {**names, of: looked_at[1].get(shape, NUM)}
            if shape in shapes or self.chance.random() < 0.5:
                rows += [(shape, of, self.tree(kind, inner, depth))] * self.chance.choice([1, 1, 1, 2])
        if self.chance.randrange(1000) < self.slips:
            rows.pop()
        return ("case", self.tree(looked_at, names, depth), rows)

    def an_again(self, kind, names, depth):
        of = self.chance.choice(NAMES)
        times = self.chance.choice([0, 1, 2, 2, 3, 9])
        return ("again", times, of, self.tree(kind, names, depth), self.tree(kind, {**names, of: kind}, depth))

    def a_field(self, kind, names, depth):
        of = self.chance.choice(FIELDS)
        return ("field", self.tree(("record", {of: kind}), names, depth), of)

    def a_call(self, kind, names, depth):
        fitting = [deed for deed in self.deeds if deed[3] == kind]
        if self.chance.randrange(1000) < self.slips:
            fitting = self.deeds + [("gone", [], None, None)]
        if not fitting:
            return self.a_let(kind, names, depth)
        deed, params, _, _ = self.chance.choice(fitting)
        args = [self.tree(param, names, depth) for _, param in params]
        if self.chance.randrange(1000) < self.slips:
            args = args[1:]
        return ("call", deed, args)
