"""[2], [3] and [4]: which values are of a kind."""

import unittest

from kindsure.kinds import is_of
from small_kinds import MOST, NUM, TRUTH, WORLDS, cho, many_names, rec, tower

# One value of each make, and a kind of each make of which the value of the same place is.
ONE_OF_EACH = [(7, NUM), (True, TRUTH), ({"a": 7}, rec(a=NUM)), (("a", 7), cho(a=NUM))]


def is_of_by_the_words(value, kind):
    """[4] once more, as briefly as it goes, to compare with."""
    if kind == NUM:
        return type(value) is int and -MOST <= value <= MOST
    if kind == TRUTH:
        return type(value) is bool
    make, parts = kind
    if make == "record":
        return type(value) is dict and all(
            name in value and is_of_by_the_words(value[name], part) for name, part in parts.items())
    return type(value) is tuple and value[0] in parts and is_of_by_the_words(value[1], parts[value[0]])


class Asking(unittest.TestCase):
    def yes(self, value, kind):
        self.assertIs(is_of(value, kind), True, (value, kind))

    def no(self, value, kind):
        self.assertIs(is_of(value, kind), False, (value, kind))


class NumbersAndTruths(Asking):
    def test_numbers_to_the_bounds_either_way(self):
        for number in (0, 1, -1, 7, 999999999999, -999999999999, MOST, -MOST):
            self.yes(number, NUM)

    def test_what_is_beyond_the_bounds_is_no_number(self):
        for number in (MOST + 1, -MOST - 1, MOST * MOST, -MOST * MOST):
            self.no(number, NUM)
            self.no({"a": number}, rec(a=NUM))

    def test_truths(self):
        self.yes(True, TRUTH)
        self.yes(False, TRUTH)

    def test_truths_are_no_numbers(self):
        for truth in (True, False):
            self.no(truth, NUM)
            self.no({"a": truth}, rec(a=NUM))
            self.no(("a", truth), cho(a=NUM))

    def test_numbers_are_no_truths(self):
        for number in (0, 1, -1, 2):
            self.no(number, TRUTH)
            self.no({"a": number}, rec(a=TRUTH))
            self.no(("a", number), cho(a=TRUTH))


class Records(Asking):
    def test_every_field_with_a_value_of_its_kind(self):
        self.yes({"a": 1}, rec(a=NUM))
        self.yes({"a": 1, "b": False}, rec(a=NUM, b=TRUTH))
        self.yes({"b": False, "a": 1}, rec(a=NUM, b=TRUTH))

    def test_a_field_missing(self):
        self.no({}, rec(a=NUM))
        self.no({"a": 1}, rec(a=NUM, b=TRUTH))
        self.no({"b": True}, rec(a=NUM, b=TRUTH))

    def test_a_field_of_another_kind(self):
        self.no({"a": True}, rec(a=NUM))
        self.no({"a": 1, "b": 1}, rec(a=NUM, b=TRUTH))
        self.no({"a": 1, "b": True}, rec(a=TRUTH, b=NUM))
        self.no({"a": {}}, rec(a=NUM))

    def test_others_beside(self):
        self.yes({"a": 1, "b": True}, rec(a=NUM))
        self.yes({"a": 1, "b": ("c", {}), "d": {"a": True}}, rec(a=NUM))
        self.no({"a": True, "b": 1}, rec(a=NUM))

    def test_an_empty_record(self):
        self.yes({}, rec())
        self.no({}, rec(a=rec()))

    def test_an_empty_records_kind(self):
        self.yes({"a": 1}, rec())
        self.yes({"a": {}, "b": ("c", True)}, rec())
        for value in (0, 1, True, False, ("a", {}), ("record", {})):
            self.no(value, rec())


class Choices(Asking):
    def test_the_shape_is_one_of_the_parts(self):
        self.yes(("a", 1), cho(a=NUM))
        self.yes(("a", 1), cho(a=NUM, b=TRUTH))
        self.yes(("b", True), cho(a=NUM, b=TRUTH))

    def test_the_shape_is_none_of_the_parts(self):
        self.no(("b", 1), cho(a=NUM))
        self.no(("c", 1), cho(a=NUM, b=NUM))

    def test_the_value_is_not_of_that_parts_kind(self):
        self.no(("a", True), cho(a=NUM))
        self.no(("a", True), cho(a=NUM, b=TRUTH))
        self.no(("b", 1), cho(a=NUM, b=TRUTH))
        self.no(("a", {}), cho(a=NUM))


class OtherMakes(Asking):
    def test_a_value_of_each_make_against_a_kind_of_each_make(self):
        for at, (value, _) in enumerate(ONE_OF_EACH):
            for place, (_, kind) in enumerate(ONE_OF_EACH):
                self.assertIs(is_of(value, kind), at == place, (value, kind))
                self.assertIs(is_of({"f": value}, rec(f=kind)), at == place, (value, kind))
                self.assertIs(is_of(("s", value), cho(s=kind)), at == place, (value, kind))

    def test_no_choice_is_a_record_with_its_shape_as_a_field(self):
        self.no(("a", 1), rec(a=NUM))
        self.no({"a": 1}, cho(a=NUM))
        self.no(("a", {"a": 1}), rec(a=NUM))

    def test_words_of_the_kinds_are_names_like_others(self):
        words = {"num": True, "truth": 1, "record": ("choice", 2), "choice": {}}
        kind = rec(num=TRUTH, truth=NUM, record=cho(choice=NUM), choice=rec())
        self.yes(words, kind)
        for name, value in words.items():
            self.yes((name, value), ("choice", kind[1]))
        self.no(("record", {}), rec())
        self.yes(("record", {}), cho(record=rec()))
        self.yes(("choice", {"a": 1}), cho(choice=rec(a=NUM)))
        self.no(("num", True), cho(num=NUM))


class NestedAndWide(Asking):
    KIND = rec(a=cho(no=rec(), yes=rec(b=cho(c=NUM))), d=rec(e=rec(f=TRUTH)))

    def test_a_few_levels_deep(self):
        inner = {"e": {"f": True}}
        self.yes({"a": ("no", {}), "d": inner}, self.KIND)
        self.yes({"a": ("yes", {"b": ("c", 5), "g": 1}), "d": inner, "h": 2}, self.KIND)
        self.no({"a": ("yes", {"b": ("c", True)}), "d": inner}, self.KIND)
        self.no({"a": ("yes", {"b": ("e", 5)}), "d": inner}, self.KIND)
        self.no({"a": ("yes", {}), "d": inner}, self.KIND)
        self.no({"a": ("maybe", {}), "d": inner}, self.KIND)
        self.no({"a": ("no", {}), "d": {"e": {"f": 1}}}, self.KIND)
        self.no({"a": ("no", {}), "d": {"e": {}}}, self.KIND)

    def test_the_parts_stand_in_any_order(self):
        kind = ("record", {name: self.KIND[1][name] for name in ("d", "a")})
        value = {"a": ("yes", {"b": ("c", 5)}), "d": {"e": {"f": True}}}
        self.yes(value, kind)
        self.yes({name: value[name] for name in ("d", "a")}, self.KIND)

    def test_a_record_of_many_fields(self):
        names = many_names(3000)
        kind = ("record", {name: NUM for name in names})
        value = {name: at for at, name in enumerate(reversed(names))}
        self.yes(value, kind)
        for name in (names[0], names[1500], names[-1]):
            self.no({**value, name: True}, kind)
            self.no({other: value[other] for other in names if other != name}, kind)

    def test_a_choice_of_many_shapes(self):
        names = many_names(3000)
        kind = ("choice", {name: [NUM, TRUTH][at % 2] for at, name in enumerate(names)})
        for at, name in enumerate(names):
            self.yes((name, [5, True][at % 2]), kind)
            self.no((name, [True, 5][at % 2]), kind)
        self.no(("nameless", 5), kind)

    def test_no_depth_is_too_great(self):
        depth = 20000
        record, choice = 5, 5
        for _ in range(depth):
            record, choice = {"a": record}, ("a", choice)
        self.assertIs(is_of(record, tower("record", "a", depth, NUM)), True)
        self.assertIs(is_of(record, tower("record", "a", depth, TRUTH)), False)
        self.assertIs(is_of(record, rec(a=rec())), True)
        self.assertIs(is_of(choice, tower("choice", "a", depth, NUM)), True)
        self.assertIs(is_of(choice, tower("choice", "a", depth, TRUTH)), False)

    def test_small_worlds_by_the_words_of_the_document(self):
        for kinds, values in WORLDS:
            for kind in kinds:
                for value in values:
                    self.assertIs(is_of(value, kind), is_of_by_the_words(value, kind), (value, kind))


if __name__ == "__main__":
    unittest.main()
