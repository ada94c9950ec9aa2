"""What a program comes to.

A deed may call one that is told ahead, and so on down a row of deeds that nothing limits. So what
is still to be reckoned stands in a list, the next one last, instead of in calls within calls.
"""

from kindsure.errors import ByNought, LostField, LostName, LostShape, Misfit, TooGreat
from kindsure.kinds import MOST

# For each word the places of the parts that are reckoned at once, ahead of what the whole asks;
# a record and a call have lists of them.
PLACES = {
    "num": (),
    "truth": (),
    "name": (),
    "add": (1, 2),
    "take": (1, 2),
    "part": (1, 2),
    "less": (1, 2),
    "let": (2,),
    "if": (1,),
    "field": (1,),
    "with": (1, 3),
    "choice": (2,),
    "case": (1,),
    "again": (3,),
}


def reckoned(deeds, names, tree):
    """The value that the program comes to; else a refusal below Stuck or Stopped."""
    run = Run(deeds)
    run.ask(tree, Scope(names, len(deeds)))
    while run.pending:
        run.go_on()
    return run.results.pop()


class Scope:
    """The values of the names that a tree knows, and how many deeds are told ahead of it."""

    def __init__(self, names, ahead):
        self.names = names
        self.ahead = ahead

    def with_name(self, name, value):
        """A scope in which the name stands for the value."""
        return Scope({**self.names, name: value}, self.ahead)


class Run:
    """What is still to be reckoned, and the values that have been come to and are still to be used."""

    def __init__(self, deeds):
        self.deeds = deeds
        self.places = {deed[0]: at for at, deed in enumerate(deeds)}
        # Each entry is a tree, its scope, and whether its parts have been reckoned.
        self.pending = []
        self.results = []

    def ask(self, tree, scope):
        """Has the tree reckoned next."""
        self.pending.append((tree, scope, False))

    def go_on(self):
        """Takes the next step."""
        tree, scope, parts_reckoned = self.pending.pop()
        if parts_reckoned:
            action = ACTIONS[tree[0]]
            action(self, tree, scope)
        else:
            self.begin(tree, scope)

    def begin(self, tree, scope):
        """Has the parts reckoned next, and then what becomes of them."""
        if tree[0] == "call":
            # A deed that is not told ahead is refused ahead of its args.
            self.place_of_deed(tree[1], scope)
        times = tree[1] if tree[0] == "again" else 1
        for _ in range(times):
            self.pending.append((tree, scope, True))
        for part in reversed(parts_at_once(tree)):
            self.ask(part, scope)

    def place_of_deed(self, name, scope):
        """The place of a deed among the deeds; it must be told ahead."""
        if name not in self.places or self.places[name] >= scope.ahead:
            raise LostName(f"no deed {name} is told ahead")
        return self.places[name]

    def give(self, value):
        """Keeps what a tree has come to."""
        self.results.append(value)

    def give_number(self, number):
        """Keeps the number that a tree has come to, if there is such a number."""
        if number < -MOST or number > MOST:
            raise TooGreat(f"there is no number beyond {MOST} either way")
        self.give(number)

    def take_value(self):
        """The value of the last part."""
        return self.results.pop()

    def take_values(self, count):
        """The values of so many parts, from the left."""
        start = len(self.results) - count
        taken = self.results[start:]
        del self.results[start:]
        return taken

    def take_numbers(self):
        """The values of two parts, of which both must be numbers."""
        one, other = self.take_values(2)
        for value in (one, other):
            # For Python, True and False are integers, too.
            if isinstance(value, bool) or not isinstance(value, int):
                raise Misfit("what is wanted here is a number")
        return one, other


def parts_at_once(tree):
    """The parts that are reckoned at once, from the left."""
    word = tree[0]
    if word == "record":
        return [part for _, part in tree[1]]
    if word == "call":
        return list(tree[2])
    return [tree[at] for at in PLACES[word]]


def reckon_num(run, tree, scope):
    run.give_number(tree[1])


def reckon_truth(run, tree, scope):
    run.give(tree[1])


def reckon_name(run, tree, scope):
    name = tree[1]
    if name not in scope.names:
        raise LostName(f"there is no name {name}")
    run.give(scope.names[name])


def reckon_add(run, tree, scope):
    one, other = run.take_numbers()
    run.give_number(one + other)


def reckon_take(run, tree, scope):
    one, other = run.take_numbers()
    run.give_number(one - other)


def reckon_part(run, tree, scope):
    one, other = run.take_numbers()
    if other == 0:
        raise ByNought("no number is parted by nought")
    run.give_number(one // other)


def reckon_less(run, tree, scope):
    one, other = run.take_numbers()
    run.give(one < other)


def reckon_let(run, tree, scope):
    name = tree[1]
    then = tree[3]
    run.ask(then, scope.with_name(name, run.take_value()))


def reckon_if(run, tree, scope):
    test = run.take_value()
    if not isinstance(test, bool):
        raise Misfit("what is wanted here is a truth")
    run.ask(tree[2] if test else tree[3], scope)


def reckon_record(run, tree, scope):
    rows = tree[1]
    values = run.take_values(len(rows))
    run.give({row[0]: value for row, value in zip(rows, values)})


def reckon_field(run, tree, scope):
    field = tree[2]
    record = run.take_value()
    must_be_record(record)
    if field not in record:
        raise LostField(f"the record has no field {field}")
    run.give(record[field])


def reckon_with(run, tree, scope):
    record, value = run.take_values(2)
    must_be_record(record)
    run.give({**record, tree[2]: value})


def must_be_record(value):
    if not isinstance(value, dict):
        raise Misfit("what is wanted here is a record")


def reckon_choice(run, tree, scope):
    run.give((tree[1], run.take_value()))


def reckon_case(run, tree, scope):
    choice = run.take_value()
    if not isinstance(choice, tuple):
        raise Misfit("what is wanted here is a choice")
    shape, content = choice
    for row_shape, name, part in tree[2]:
        if row_shape == shape:
            run.ask(part, scope.with_name(name, content))
            return
    raise LostShape(f"no row has the shape {shape}")


def reckon_again(run, tree, scope):
    """One time of those that the tree tells."""
    name, _, then = tree[2:]
    run.ask(then, scope.with_name(name, run.take_value()))


def reckon_call(run, tree, scope):
    _, name, args = tree
    values = run.take_values(len(args))
    place = run.place_of_deed(name, scope)
    _, params, then = run.deeds[place]
    if len(values) != len(params):
        raise Misfit(f"{name} wants another number of args")
    run.ask(then, Scope({param[0]: value for param, value in zip(params, values)}, place))


ACTIONS = {
    "num": reckon_num,
    "truth": reckon_truth,
    "name": reckon_name,
    "add": reckon_add,
    "take": reckon_take,
    "part": reckon_part,
    "less": reckon_less,
    "let": reckon_let,
    "if": reckon_if,
    "record": reckon_record,
    "field": reckon_field,
    "with": reckon_with,
    "choice": reckon_choice,
    "case": reckon_case,
    "again": reckon_again,
    "call": reckon_call,
}
