"""[7] and [11]: what programs come to, word by word."""

import unittest

from asking import Asking
from small_kinds import MOST, many_names
from trees import (EMPTY, NO, ONE, RUN_FAULTS, TWO, X, Y, YES, add, again, call, case, choice, field, less, let, name,
                   nested, num, part, put, record, take, when)

DEEP = 40


class Leaves(Asking):
    def test_numbers(self):
        for number in (0, 1, -1, 7, MOST, -MOST):
            self.comes_to(number, num(number))

    def test_truths(self):
        self.comes_to(True, YES)
        self.comes_to(False, NO)

    def test_names_of_values_of_each_make(self):
        for value in (0, 1, -5, True, False, {}, {"a": {"b": 1}}, ("s", {"a": ("t", True)})):
            self.comes_to(value, X, {"x": value, "y": 9})

    def test_names_that_are_words(self):
        self.comes_to(3, name("num"), {"num": 3})
        self.comes_to(4, let("let", num(4), name("let")))
        self.comes_to({"record": ("choice", 1)}, record(record=choice("choice", ONE)))


class Numbers(Asking):
    def test_sums_and_differences(self):
        for one, other in ((2, 3), (-2, 3), (2, -3), (-2, -3), (0, 0), (MOST, -MOST), (MOST - 1, 1)):
            self.comes_to(one + other, add(num(one), num(other)))
        for one, other in ((2, 3), (-2, 3), (2, -3), (-2, -3), (0, 0), (MOST, MOST), (1 - MOST, 1)):
            self.comes_to(one - other, take(num(one), num(other)))

    def test_the_quotient_is_rounded_downwards_for_either_sign(self):
        rows = [(7, 2, 3), (-7, 2, -4), (7, -2, -4), (-7, -2, 3), (6, 3, 2), (-6, 3, -2), (6, -3, -2), (-6, -3, 2),
                (1, 5, 0), (-1, 5, -1), (1, -5, -1), (-1, -5, 0), (0, 5, 0), (0, -5, 0), (5, 1, 5), (5, -1, -5),
                (MOST, MOST, 1), (-MOST, MOST, -1), (1, MOST, 0), (-1, MOST, -1), (MOST, -1, -MOST),
                (-MOST, -1, MOST), (MOST, 3, 333333333333), (-MOST, 3, -333333333334)]
        for one, other, wanted in rows:
            self.comes_to(wanted, part(num(one), num(other)))

    def test_less(self):
        for one, other in ((1, 2), (-2, -1), (-1, 0), (-MOST, MOST), (MOST - 1, MOST)):
            self.comes_to(True, less(num(one), num(other)))
            self.comes_to(False, less(num(other), num(one)))
            self.comes_to(False, less(num(one), num(one)))

    def test_parts_are_trees(self):
        self.comes_to(-4, take(add(ONE, X), part(num(-9), take(ONE, num(2)))), {"x": 4})
        self.comes_to(True, less(part(num(-1), TWO), take(ONE, ONE)))


class Lets(Asking):
    def test_the_name_stands_for_what_was_come_to(self):
        self.comes_to(3, let("x", add(ONE, TWO), X))
        self.comes_to(6, let("x", add(ONE, TWO), add(X, X)))
        self.comes_to({"a": ("s", 1), "b": ("s", 1)}, let("x", choice("s", ONE), record(a=X, b=X)))

    def test_the_name_is_there_within_alone(self):
        self.comes_to(5, add(let("x", ONE, X), X), {"x": 4})
        self.comes_to(5, add(X, let("x", ONE, X)), {"x": 4})

    def test_a_let_that_tells_a_name_anew(self):
        self.comes_to(8, let("x", add(X, ONE), add(X, ONE)), {"x": 6})
        self.comes_to(2, let("x", ONE, let("x", TWO, X)))
        self.comes_to(21, let("x", ONE, add(let("x", num(20), X), X)))
        self.comes_to(21, let("x", ONE, add(X, let("x", num(20), X))))
        self.comes_to({"x": 2, "y": 1}, let("x", ONE, let("y", X, let("x", TWO, record(x=X, y=Y)))))

    def test_a_let_in_the_first_part_of_a_let(self):
        self.comes_to(3, let("x", let("y", TWO, add(Y, ONE)), X))
        self.comes_to(9, let("x", let("y", TWO, ONE), Y), {"y": 9})

    def test_other_names_stay(self):
        self.comes_to({"x": 1, "y": 9}, let("x", ONE, record(x=X, y=Y)), {"y": 9})


class Ifs(Asking):
    def test_the_side_that_counts(self):
        self.comes_to(1, when(YES, ONE, TWO))
        self.comes_to(2, when(NO, ONE, TWO))
        self.comes_to(1, when(less(ONE, TWO), ONE, TWO))
        self.comes_to(False, when(when(YES, NO, YES), ONE, NO))

    def test_nothing_but_that_side_is_reckoned(self):
        for fault in RUN_FAULTS.values():
            self.comes_to(1, when(YES, ONE, fault))
            self.comes_to(2, when(NO, fault, TWO))

    def test_names_told_in_the_test_are_not_there_in_the_sides(self):
        self.comes_to(9, when(let("x", YES, X), X, TWO), {"x": 9})


class Records(Asking):
    def test_records(self):
        self.comes_to({}, EMPTY)
        self.comes_to({"a": 1}, record(a=ONE))
        self.comes_to({"a": 1, "b": True, "c": {}, "d": ("s", 2)}, record(a=ONE, b=YES, c=EMPTY, d=choice("s", TWO)))
        self.comes_to({"a": {"a": {"a": 3}}}, record(a=record(a=record(a=add(ONE, TWO)))))

    def test_each_field_has_its_own_part(self):
        names = many_names(300)
        tree = ("record", [(field_name, num(at)) for at, field_name in enumerate(names)])
        self.comes_to({field_name: at for at, field_name in enumerate(names)}, tree)
        self.comes_to({"b": 1, "a": 2, "c": {}}, record(b=ONE, a=TWO, c=EMPTY))

    def test_fields(self):
        self.comes_to(1, field(record(a=ONE, b=YES), "a"))
        self.comes_to(True, field(record(a=ONE, b=YES), "b"))
        self.comes_to(2, field(field(X, "a"), "b"), {"x": {"a": {"b": 2}}})

    def test_with_on_a_field_that_is_there(self):
        self.comes_to({"a": 2, "b": True}, put(record(a=ONE, b=YES), "a", TWO))
        self.comes_to({"a": True}, put(record(a=ONE), "a", YES))
        self.comes_to({"a": {"a": 1}}, put(record(a=ONE), "a", record(a=ONE)))

    def test_with_on_a_field_that_is_not_there(self):
        self.comes_to({"a": 2}, put(EMPTY, "a", TWO))
        self.comes_to({"a": 1, "b": ("s", {})}, put(record(a=ONE), "b", choice("s", EMPTY)))

    def test_with_leaves_the_record_that_it_began_with(self):
        self.comes_to({"x": {"a": 1}, "y": {"a": 2, "b": 3}},
                      let("x", record(a=ONE), let("y", put(put(X, "a", TWO), "b", num(3)), record(x=X, y=Y))))


class Choices(Asking):
    def test_choices(self):
        self.comes_to(("s", 1), choice("s", ONE))
        self.comes_to(("s", ("s", ("t", {}))), choice("s", choice("s", choice("t", EMPTY))))
        self.comes_to(("num", True), choice("num", YES))

    def test_the_row_with_the_choices_shape(self):
        rows = [("a", "x", add(X, ONE)), ("b", "y", record(y=Y)), ("c", "x", less(X, ONE))]
        self.comes_to(6, case(choice("a", num(5)), *rows))
        self.comes_to({"y": True}, case(choice("b", YES), *rows))
        self.comes_to(True, case(choice("c", num(0)), *rows))
        self.comes_to(True, case(X, *reversed(rows)), {"x": ("c", 0)})

    def test_the_first_row_with_the_shape_counts(self):
        rows = [("b", "x", num(10)), ("a", "x", add(X, num(20))), ("a", "y", num(30)), ("b", "x", num(40)),
                ("a", "x", num(50))]
        self.comes_to(21, case(choice("a", ONE), *rows))
        self.comes_to(10, case(choice("b", ONE), *rows))

    def test_nothing_but_that_row_is_reckoned(self):
        for fault in RUN_FAULTS.values():
            rows = [("a", "x", fault), ("b", "x", X), ("b", "x", fault), ("c", "x", fault)]
            self.comes_to(7, case(choice("b", num(7)), *rows))

    def test_the_name_stands_for_the_choices_value_within_the_row_alone(self):
        self.comes_to(13, add(case(choice("a", ONE), ("a", "x", add(X, TWO))), X), {"x": 10})
        self.comes_to(11, case(choice("a", ONE), ("a", "y", add(X, Y))), {"x": 10})
        self.comes_to(5, case(choice("a", choice("b", num(5))), ("a", "x", case(X, ("b", "x", X)))))


class Agains(Asking):
    def test_no_time_is_what_it_began_with(self):
        self.comes_to(5, again(0, "x", num(5), add(X, ONE)))
        for fault in RUN_FAULTS.values():
            self.comes_to(5, again(0, "x", num(5), fault))

    def test_once(self):
        self.comes_to(6, again(1, "x", num(5), add(X, ONE)))
        self.comes_to(("s", 5), again(1, "x", num(5), choice("s", X)))

    def test_nine_times(self):
        self.comes_to(512, again(9, "x", ONE, add(X, X)))
        self.comes_to(-9, again(9, "x", num(0), take(X, ONE)))

    def test_any_number_of_times(self):
        for times in range(10):
            self.comes_to(2 ** times, again(times, "x", ONE, add(X, X)))
            self.comes_to(times % 2 == 0, again(times, "x", YES, when(X, NO, YES)))

    def test_what_it_goes_on_with_need_not_look_at_the_name(self):
        self.comes_to(2, again(3, "x", ONE, TWO))
        self.comes_to(2, again(3, "x", ONE, Y), {"x": 1, "y": 2})

    def test_the_name_is_there_within_alone(self):
        self.comes_to({"a": 11, "b": 10}, record(a=again(1, "x", X, add(X, ONE)), b=X), {"x": 10})
        self.comes_to({"b": 10, "a": 11}, record(b=X, a=again(1, "x", X, add(X, ONE))), {"x": 10})

    def test_an_again_within_an_again(self):
        self.comes_to(64, again(2, "x", ONE, again(3, "y", X, add(Y, Y))))
        self.comes_to(8 * 9 // 2 + 9, field(again(
            9, "x", record(n=num(0), s=num(0)),
            let("n", add(field(X, "n"), ONE), record(n=name("n"), s=add(field(X, "s"), name("n"))))), "s"))


class Calls(Asking):
    DEEDS = [("twice", [("x", "num")], add(X, X)),
             ("pair", [("x", "num"), ("y", "truth")], record(x=X, y=Y)),
             ("four", [("y", "num")], call("twice", call("twice", Y))),
             ("none", [], num(7))]

    def comes(self, wanted, tree, names=None):
        self.comes_to(wanted, tree, names, self.DEEDS)

    def test_args_stand_for_the_params_from_the_left(self):
        self.comes(10, call("twice", num(5)))
        self.comes({"x": 1, "y": True}, call("pair", ONE, YES))
        self.comes(7, call("none"))

    def test_a_deed_told_behind_calls_one_told_ahead(self):
        self.comes(20, call("four", num(5)))
        self.comes(80, call("twice", call("four", call("twice", num(5)))))

    def test_args_are_trees_that_know_the_programs_names(self):
        self.comes({"x": 3, "y": False}, call("pair", add(X, ONE), less(X, X)), {"x": 2})

    def test_params_called_as_names_of_the_program(self):
        self.comes({"a": 10, "b": 3, "c": 4}, record(a=call("twice", num(5)), b=X, c=Y), {"x": 3, "y": 4})
        self.comes({"x": 4, "y": True}, call("pair", Y, X), {"x": True, "y": 4})

    def test_a_row_of_very_many_deeds(self):
        # Calls within calls of Python itself would not reach as far down.
        names = many_names(5000)
        deeds = [(names[0], [("x", "num")], X)]
        deeds += [(deed, [("x", "num")], add(ONE, call(ahead, X))) for ahead, deed in zip(names, names[1:])]
        self.comes_to(5009, call(names[-1], num(10)), {}, deeds)
        self.is_told("num", call(names[-1], num(10)), {}, deeds)

    def test_a_row_of_deeds_of_trees_that_are_nested_as_deep_as_may_be(self):
        names = many_names(100)
        deeds = [(names[0], [("x", "num")], X)]
        deeds += [(deed, [("x", "num")], nested(DEEP - 1, call(ahead, X), lambda tree: add(ONE, tree)))
                  for ahead, deed in zip(names, names[1:])]
        self.comes_to(99 * (DEEP - 1), call(names[-1], num(0)), {}, deeds)


class Deep(Asking):
    """Each word nested 40 deep, in each of its parts; a little beyond there is no error of another sort."""

    def both(self, wanted, kind, bottom, floor, names=None, deeds=None):
        for depth in (DEEP, DEEP + 9):
            tree = nested(depth, bottom, floor)
            self.comes_to(wanted(depth), tree, names, deeds)
            self.is_told(kind(depth), tree, {called: "num" for called in names or {}}, deeds)

    def number(self, wanted, bottom, floor, names=None, deeds=None):
        self.both(wanted, lambda depth: "num", bottom, floor, names, deeds)

    def test_numbers(self):
        self.number(lambda depth: depth, num(0), lambda tree: add(ONE, tree))
        self.number(lambda depth: depth, num(0), lambda tree: add(tree, ONE))
        self.number(lambda depth: -depth, num(0), lambda tree: take(tree, ONE))
        self.number(lambda depth: depth % 2, num(0), lambda tree: take(ONE, tree))
        self.number(lambda depth: 0, num(MOST), lambda tree: part(tree, TWO))
        self.number(lambda depth: 1, num(1), lambda tree: part(ONE, tree))

    def test_lets_and_ifs(self):
        self.number(lambda depth: depth, X, lambda tree: let("x", add(X, ONE), tree), {"x": 0})
        self.number(lambda depth: depth, num(0), lambda tree: let("x", tree, add(X, ONE)))
        self.number(lambda depth: 1, ONE, lambda tree: when(YES, tree, TWO))
        self.number(lambda depth: 1, ONE, lambda tree: when(NO, TWO, tree))
        self.both(lambda depth: depth % 2 == 0, lambda depth: "truth", YES, lambda tree: when(tree, NO, YES))

    def test_records_and_choices(self):
        def tower(make, bottom):
            return lambda depth: nested(depth, bottom, make)

        self.both(tower(lambda inner: {"a": inner}, 1), tower(lambda inner: ("record", {"a": inner}), "num"),
                  ONE, lambda tree: record(a=tree))
        self.both(tower(lambda inner: {"a": inner}, {}),
                  tower(lambda inner: ("record", {"a": inner}), ("record", {})),
                  EMPTY, lambda tree: put(EMPTY, "a", tree))
        self.both(lambda depth: {"a": 1}, lambda depth: ("record", {"a": "num"}), EMPTY,
                  lambda tree: put(tree, "a", ONE))
        self.both(tower(lambda inner: ("s", inner), 1), tower(lambda inner: ("choice", {"s": inner}), "num"),
                  ONE, lambda tree: choice("s", tree))
        self.number(lambda depth: 1, ONE, lambda tree: field(record(a=tree), "a"))
        self.number(lambda depth: depth, num(0), lambda tree: case(choice("s", tree), ("s", "x", add(X, ONE))))
        self.number(lambda depth: depth, X, lambda tree: case(choice("s", add(X, ONE)), ("s", "x", tree)), {"x": 0})

    def test_agains_and_calls(self):
        deeds = [("more", [("x", "num")], add(X, ONE))]
        self.number(lambda depth: 2 * depth, num(0), lambda tree: again(2, "x", tree, add(X, ONE)))
        self.number(lambda depth: depth, X, lambda tree: again(1, "x", add(X, ONE), tree), {"x": 0})
        self.number(lambda depth: depth, num(0), lambda tree: call("more", tree), {}, deeds)


class Doubling(Asking):
    """Values and kinds that double with every let are told at once."""

    TREE = nested(DEEP - 1, X, lambda tree: let("x", record(a=X, b=X), tree))

    def test_a_doubled_record(self):
        tree = let("x", self.TREE, nested(DEEP - 1, X, lambda inner: field(inner, "b")))
        self.comes_to(5, tree, {"x": 5})
        self.is_told("num", tree, {"x": "num"})

    def test_a_doubled_record_on_either_side(self):
        tree = let("x", when(YES, self.TREE, put(self.TREE, "c", ONE)),
                   nested(DEEP - 1, X, lambda inner: field(inner, "a")))
        self.comes_to(5, tree, {"x": 5})
        self.is_told("num", tree, {"x": "num"})

    def test_args_that_double(self):
        deeds = [("left", [("x", ("record", {"a": ("record", {"a": ("record", {})})}))], field(field(X, "a"), "a"))]
        self.comes_to(1, let("y", call("left", self.TREE), ONE), {"x": 5}, deeds)
        self.is_told(("record", {}), call("left", self.TREE), {"x": "num"}, deeds)


if __name__ == "__main__":
    unittest.main()
