"""Trees for the tests: a short name for each word, faults of each sort, and towers."""

from kindsure import errors
from small_kinds import MOST


def num(number):
    return ("num", number)


def truth(worth):
    return ("truth", worth)


def name(of):
    return ("name", of)


def add(one, other):
    return ("add", one, other)


def take(one, other):
    return ("take", one, other)


def part(one, other):
    return ("part", one, other)


def less(one, other):
    return ("less", one, other)


def let(of, first, then):
    return ("let", of, first, then)


def when(test, one, other):
    return ("if", test, one, other)


def record(**rows):
    return ("record", list(rows.items()))


def field(whole, of):
    return ("field", whole, of)


def put(whole, of, inner):
    return ("with", whole, of, inner)


def choice(shape, inner):
    return ("choice", shape, inner)


def case(looked_at, *rows):
    return ("case", looked_at, list(rows))


def again(times, of, first, then):
    return ("again", times, of, first, then)


def call(deed, *args):
    return ("call", deed, list(args))


ONE, TWO, YES, NO, X, Y = num(1), num(2), truth(True), truth(False), name("x"), name("y")
EMPTY = record()

# Trees that are refused by themselves, in any scope that has no name and no deed "gone".
UNSURE_FAULTS = {
    errors.NoName: name("gone"),
    errors.NotSo: add(YES, ONE),
    errors.NoField: field(EMPTY, "gone"),
    errors.Uncovered: case(choice("a", ONE)),
    errors.Unlike: when(YES, ONE, YES),
    errors.Unsteady: again(1, "x", choice("a", ONE), choice("b", X)),
}
RUN_FAULTS = {
    errors.LostName: name("gone"),
    errors.LostField: field(EMPTY, "gone"),
    errors.LostShape: case(choice("a", ONE)),
    errors.Misfit: add(YES, ONE),
    errors.ByNought: part(ONE, num(0)),
    errors.TooGreat: add(num(MOST), ONE),
}


def nested(depth, bottom, floor):
    """The bottom, with the floor built around it so many times."""
    tree = bottom
    for _ in range(depth):
        tree = floor(tree)
    return tree
