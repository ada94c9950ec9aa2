"""Which kind comes of a program, told ahead of its being run.

Within the judge a kind is a number on its shelf, and names is a dict from names to such numbers.
"""

from kindsure.errors import NoField, NoName, NotSo, Uncovered, Unlike, Unsteady
from kindsure.kinds import make_of, parts_of
from kindsure.shelf import Shelf

ROUNDS = 9


def judged(deeds, names, tree):
    """The kind of what comes of the program; else a refusal below Unsure."""
    judge = Judge()
    for name, params, inner in deeds:
        judge.learn(name, params, inner)
    found = judge.look(tree, judge.numbered(list(names.items())))
    return judge.shelf.whole(found)


class Judge:
    """The kinds that have been come to, and the deeds that have been judged so far."""

    def __init__(self):
        self.shelf = Shelf()
        self.num = self.shelf.place("num")
        self.truth = self.shelf.place("truth")
        # For each deed its params' kinds and the kind of its tree.
        self.deeds = {}

    def numbered(self, pairs):
        """The numbers of the kinds by their names."""
        return {name: self.shelf.place_whole(kind) for name, kind in pairs}

    def learn(self, name, params, tree):
        """Judges a deed; those behind it may call it then."""
        wanted = self.numbered(params)
        self.deeds[name] = (list(wanted.values()), self.look(tree, wanted))

    def look(self, tree, names):
        """The kind of a tree."""
        action = ACTIONS[tree[0]]
        return action(self, tree, names)

    def parts(self, make, kind):
        """The parts of a kind that is asked to be of that make."""
        found = self.shelf.kinds[kind]
        if make_of(found) != make:
            raise NotSo(f"what is asked for is a {make}, not a {make_of(found)}")
        return parts_of(found)

    def meeting(self, kind, other):
        """The meeting of two kinds, which is asked for."""
        met = self.shelf.meeting(kind, other)
        if met is None:
            raise Unlike("what comes here one way and what comes the other way have no meeting")
        return met


def look_at_num(judge, tree, names):
    return judge.num


def look_at_truth(judge, tree, names):
    return judge.truth


def look_at_name(judge, tree, names):
    name = tree[1]
    if name not in names:
        raise NoName(f"there is no name {name}")
    return names[name]


def look_at_sum(judge, tree, names):
    look_at_two_numbers(judge, tree, names)
    return judge.num


def look_at_less(judge, tree, names):
    look_at_two_numbers(judge, tree, names)
    return judge.truth


def look_at_two_numbers(judge, tree, names):
    """Judges two parts, of which both are asked to be numbers."""
    word, one, other = tree
    found = [judge.look(one, names), judge.look(other, names)]
    if found != [judge.num, judge.num]:
        raise NotSo(f"{word} asks for two numbers")


def look_at_let(judge, tree, names):
    _, name, first, then = tree
    kind = judge.look(first, names)
    return judge.look(then, {**names, name: kind})


def look_at_if(judge, tree, names):
    _, test, one, other = tree
    asked = judge.look(test, names)
    kind = judge.look(one, names)
    against = judge.look(other, names)
    if asked != judge.truth:
        raise NotSo("an if asks for a truth")
    return judge.meeting(kind, against)


def look_at_record(judge, tree, names):
    parts = {field: judge.look(part, names) for field, part in tree[1]}
    return judge.shelf.place(("record", parts))


def look_at_field(judge, tree, names):
    _, whole, field = tree
    parts = judge.parts("record", judge.look(whole, names))
    if field not in parts:
        raise NoField(f"the record's kind has no field {field}")
    return parts[field]


def look_at_with(judge, tree, names):
    _, whole, field, part = tree
    kind = judge.look(whole, names)
    put = judge.look(part, names)
    return judge.shelf.place(("record", {**judge.parts("record", kind), field: put}))


def look_at_choice(judge, tree, names):
    _, shape, content = tree
    return judge.shelf.place(("choice", {shape: judge.look(content, names)}))


def look_at_case(judge, tree, names):
    _, looked_at, rows = tree
    shapes = judge.parts("choice", judge.look(looked_at, names))
    counting = counting_rows(rows, shapes)
    if len(counting) < len(shapes):
        raise Uncovered("the rows lack a shape of the choice's kind")
    kinds = [judge.look(part, {**names, name: shapes[shape]}) for shape, name, part in counting]
    met = kinds[0]
    for kind in kinds[1:]:
        met = judge.meeting(met, kind)
    return met


def counting_rows(rows, shapes):
    """The rows that can count: of each of the shapes the first one."""
    first = {}
    for row in rows:
        if row[0] in shapes and row[0] not in first:
            first[row[0]] = row
    return list(first.values())


def look_at_again(judge, tree, names):
    name, first, then = tree[2:]
    kind = judge.look(first, names)
    for _ in range(ROUNDS):
        found = judge.look(then, {**names, name: kind})
        met = judge.meeting(kind, found)
        if met == kind:
            return kind
        kind = met
    raise Unsteady(f"the kind has not come to rest after {ROUNDS} rounds")


def look_at_call(judge, tree, names):
    _, name, args = tree
    if name not in judge.deeds:
        raise NoName(f"no deed {name} is told ahead")
    wanted, told = judge.deeds[name]
    found = [judge.look(arg, names) for arg in args]
    if len(found) != len(wanted):
        raise NotSo(f"{name} asks for another number of args")
    if not all([judge.shelf.fits(kind, param) for kind, param in zip(found, wanted)]):
        raise NotSo(f"an arg of {name} is not of its param's kind")
    return told


ACTIONS = {
    "num": look_at_num,
    "truth": look_at_truth,
    "name": look_at_name,
    "add": look_at_sum,
    "take": look_at_sum,
    "part": look_at_sum,
    "less": look_at_less,
    "let": look_at_let,
    "if": look_at_if,
    "record": look_at_record,
    "field": look_at_field,
    "with": look_at_with,
    "choice": look_at_choice,
    "case": look_at_case,
    "again": look_at_again,
    "call": look_at_call,
}
