"""[7] to [12] once more, as briefly as it goes and by calls within calls, to compare with."""

from kindsure import errors
from kindsure.kinds import fits, meeting
from small_kinds import MOST


def must(holds, refusal):
    if not holds:
        raise refusal("by the words")


def judged_by_the_words(deeds, names, tree):
    told = {}
    for deed, params, inner in deeds:
        told[deed] = ([kind for _, kind in params], kind_of(told, dict(params), inner))
    return kind_of(told, names, tree)


def kind_of(deeds, names, tree):
    def look(inner, **more):
        return kind_of(deeds, {**names, **more}, inner)

    word, *rest = tree
    if word == "name":
        must(rest[0] in names, errors.NoName)
        return names[rest[0]]
    if word in ("num", "truth"):
        return word
    if word in ("add", "take", "part", "less"):
        must([look(inner) for inner in rest] == ["num", "num"], errors.NotSo)
        return "truth" if word == "less" else "num"
    if word == "let":
        return look(rest[2], **{rest[0]: look(rest[1])})
    if word == "if":
        test, one, other = [look(inner) for inner in rest]
        must(test == "truth", errors.NotSo)
        return meeting(one, other)
    if word == "record":
        return ("record", {field: look(inner) for field, inner in rest[0]})
    if word == "field":
        kind = look(rest[0])
        must(kind[0] == "record", errors.NotSo)
        must(rest[1] in kind[1], errors.NoField)
        return kind[1][rest[1]]
    if word == "with":
        kind, inner = look(rest[0]), look(rest[2])
        must(kind[0] == "record", errors.NotSo)
        return ("record", {**kind[1], rest[1]: inner})
    if word == "choice":
        return ("choice", {rest[0]: look(rest[1])})
    if word == "case":
        return kind_of_case(look, *rest)
    if word == "again":
        return kind_of_again(look, *rest)
    must(rest[0] in deeds, errors.NoName)
    args, (params, kind) = [look(inner) for inner in rest[1]], deeds[rest[0]]
    must(len(args) == len(params) and all(map(fits, args, params)), errors.NotSo)
    return kind


def kind_of_case(look, looked_at, rows):
    kind = look(looked_at)
    must(kind[0] == "choice", errors.NotSo)
    must(set(kind[1]) <= {shape for shape, _, _ in rows}, errors.Uncovered)
    seen, kinds = set(), []
    for shape, name, inner in rows:
        if shape in kind[1] and shape not in seen:
            seen.add(shape)
            kinds.append(look(inner, **{name: kind[1][shape]}))
    met, *others = kinds
    for other in others:
        met = meeting(met, other)
    return met


def kind_of_again(look, _, name, first, then):
    kind = look(first)
    for _ in range(9):
        ahead, kind = kind, meeting(kind, look(then, **{name: kind}))
        if kind == ahead:
            return kind
    raise errors.Unsteady("by the words")


def reckoned_by_the_words(deeds, names, tree):
    return value_of(deeds, names, tree)


def value_of(deeds, names, tree):
    def go(inner, **more):
        return value_of(deeds, {**names, **more}, inner)

    word, *rest = tree
    if word == "name":
        must(rest[0] in names, errors.LostName)
        return names[rest[0]]
    if word in ("num", "truth"):
        return rest[0]
    if word in ("add", "take", "part", "less"):
        return number_of(word, *[go(inner) for inner in rest])
    if word == "let":
        return go(rest[2], **{rest[0]: go(rest[1])})
    if word == "if":
        test = go(rest[0])
        must(type(test) is bool, errors.Misfit)
        return go(rest[1]) if test else go(rest[2])
    if word == "record":
        return {field: go(inner) for field, inner in rest[0]}
    if word == "field":
        value = go(rest[0])
        must(type(value) is dict, errors.Misfit)
        must(rest[1] in value, errors.LostField)
        return value[rest[1]]
    if word == "with":
        value, inner = go(rest[0]), go(rest[2])
        must(type(value) is dict, errors.Misfit)
        return {**value, rest[1]: inner}
    if word == "choice":
        return (rest[0], go(rest[1]))
    if word == "case":
        value = go(rest[0])
        must(type(value) is tuple, errors.Misfit)
        rows = [row for row in rest[1] if row[0] == value[0]]
        must(rows, errors.LostShape)
        return go(rows[0][2], **{rows[0][1]: value[1]})
    if word == "again":
        value = go(rest[2])
        for _ in range(rest[0]):
            value = go(rest[3], **{rest[1]: value})
        return value
    places = [at for at, deed in enumerate(deeds) if deed[0] == rest[0]]
    must(places, errors.LostName)
    args, (_, params, inner) = [go(arg) for arg in rest[1]], deeds[places[0]]
    must(len(args) == len(params), errors.Misfit)
    return value_of(deeds[:places[0]], {param: arg for (param, _), arg in zip(params, args)}, inner)


def number_of(word, one, other):
    must(type(one) is int and type(other) is int, errors.Misfit)
    if word == "less":
        return one < other
    must(word != "part" or other != 0, errors.ByNought)
    number = {"add": one + other, "take": one - other}[word] if word != "part" else one // other
    must(-MOST <= number <= MOST, errors.TooGreat)
    return number
