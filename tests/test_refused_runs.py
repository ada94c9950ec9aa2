"""[11] and [12]: what the reckoning refuses, why, and which refusal comes first."""

import unittest

from asking import Asking
from kindsure.errors import ByNought, LostField, LostName, LostShape, Misfit, TooGreat
from small_kinds import MOST, NUM
from trees import (EMPTY, NO, ONE, RUN_FAULTS, TWO, X, Y, YES, add, again, call, case, choice, field, less, let, name,
                   num, part, put, record, take, when)

# A value of each make.
NUMBER, TRUE, RECORD, CHOICE = 5, True, {"a": 1}, ("a", 1)
DEEDS = [("two", [("x", NUM), ("y", NUM)], add(X, Y)), ("none", [], ONE)]


class Bounds(Asking):
    def test_at_the_bounds(self):
        self.comes_to(MOST, add(num(MOST - 1), ONE))
        self.comes_to(-MOST, take(num(1 - MOST), ONE))
        self.comes_to(MOST, take(num(MOST - 1), num(-1)))
        self.comes_to(-MOST, add(num(1 - MOST), num(-1)))
        self.comes_to(MOST, add(X, num(0)), {"x": MOST})
        self.comes_to(-MOST, part(X, num(-1)), {"x": MOST})
        self.comes_to(MOST, part(X, num(-1)), {"x": -MOST})

    def test_one_beyond_them(self):
        self.stops(TooGreat, add(num(MOST), ONE))
        self.stops(TooGreat, add(ONE, num(MOST)))
        self.stops(TooGreat, add(num(-MOST), num(-1)))
        self.stops(TooGreat, take(num(-MOST), ONE))
        self.stops(TooGreat, take(num(MOST), num(-1)))
        self.stops(TooGreat, take(ONE, num(-MOST)))

    def test_far_beyond_them(self):
        self.stops(TooGreat, add(num(MOST), num(MOST)))
        self.stops(TooGreat, take(num(-MOST), num(MOST)))
        self.stops(TooGreat, again(9, "x", num(MOST // 400), add(X, X)))
        self.comes_to(MOST // 2, again(8, "x", num(MOST // 512), add(X, X)))

    def test_as_soon_as_that_is_come_to(self):
        self.stops(TooGreat, take(add(num(MOST), ONE), TWO))
        self.stops(TooGreat, less(add(num(MOST), ONE), ONE))
        self.stops(TooGreat, field(record(a=ONE, b=add(num(MOST), ONE)), "a"))
        self.stops(TooGreat, let("y", add(X, X), ONE), {"x": MOST})
        self.stops(TooGreat, call("two", X, X), {"x": MOST}, DEEDS)


class ByNoughts(Asking):
    def test_by_nought(self):
        for number in (0, 1, -1, 7, MOST, -MOST):
            self.stops(ByNought, part(num(number), num(0)))
            self.stops(ByNought, part(X, take(ONE, ONE)), {"x": number})
        self.comes_to(0, part(num(0), ONE))

    def test_as_soon_as_that_is_come_to(self):
        self.stops(ByNought, let("y", part(ONE, X), TWO), {"x": 0})
        self.stops(ByNought, when(less(part(ONE, X), ONE), ONE, TWO), {"x": 0})
        self.stops(ByNought, again(2, "x", ONE, take(part(TWO, X), TWO)))


class Names(Asking):
    def test_a_name_that_is_not_there(self):
        self.stops(LostName, X)
        self.stops(LostName, X, {"y": 1})
        self.stops(LostName, let("x", X, ONE))
        self.stops(LostName, let("y", ONE, X))
        self.stops(LostName, again(1, "x", X, ONE))
        self.stops(LostName, again(0, "x", X, ONE))
        self.stops(LostName, again(1, "y", ONE, X))
        self.stops(LostName, case(choice("a", X), ("a", "x", ONE)))

    def test_a_name_that_was_there_within_alone(self):
        self.stops(LostName, add(let("x", ONE, X), X))
        self.stops(LostName, add(again(1, "x", ONE, X), X))
        self.stops(LostName, add(case(choice("a", ONE), ("a", "x", X)), X))

    def test_a_deed_that_is_not_told_ahead_of_the_args(self):
        for fault in RUN_FAULTS.values():
            self.stops(LostName, call("gone", fault))
            self.stops(LostName, call("gone", ONE, fault), {}, DEEDS)
            self.stops(LostName, call("first"), {}, [("first", [], call("first", fault))])
            self.stops(LostName, call("first"), {}, [("first", [], call("none", fault)), ("none", [], ONE)])


class Fields(Asking):
    def test_a_field_that_the_record_has_not(self):
        self.stops(LostField, field(EMPTY, "a"))
        self.stops(LostField, field(record(a=ONE), "b"))
        self.stops(LostField, field(X, "c"), {"x": {"a": {"c": 1}, "b": ("c", 1)}})
        self.stops(LostField, field(put(EMPTY, "a", ONE), "b"))

    def test_a_with_asks_for_no_field(self):
        self.comes_to({"a": 1}, put(EMPTY, "a", ONE))


class Shapes(Asking):
    def test_a_shape_that_no_row_has(self):
        self.stops(LostShape, case(choice("a", ONE)))
        self.stops(LostShape, case(choice("a", ONE), ("b", "x", ONE), ("c", "a", X)))
        self.stops(LostShape, case(X, ("a", "x", ONE)), {"x": ("b", ("a", 1))})


class Misfits(Asking):
    def others_than(self, value):
        return [other for other in (NUMBER, TRUE, RECORD, CHOICE) if other != value]

    def test_what_is_no_number(self):
        for value in self.others_than(NUMBER):
            for word in (add, take, part, less):
                self.stops(Misfit, word(X, ONE), {"x": value})
                self.stops(Misfit, word(ONE, X), {"x": value})
                self.stops(Misfit, word(X, X), {"x": value})

    def test_truths_are_no_numbers(self):
        for word in (add, take, part, less):
            for worth in (YES, NO):
                self.stops(Misfit, word(worth, ONE))
                self.stops(Misfit, word(ONE, worth))

    def test_a_misfit_is_come_to_ahead_of_the_quotient_by_nought(self):
        self.stops(Misfit, part(YES, num(0)))
        self.stops(Misfit, part(ONE, NO))

    def test_an_if_by_no_truth_ahead_of_its_sides(self):
        for value in self.others_than(TRUE) + [0, 1]:
            self.stops(Misfit, when(X, ONE, ONE), {"x": value})
            for fault in RUN_FAULTS.values():
                self.stops(Misfit, when(X, fault, fault), {"x": value})

    def test_a_field_and_a_with_of_no_record(self):
        for value in self.others_than(RECORD):
            self.stops(Misfit, field(X, "a"), {"x": value})
            self.stops(Misfit, put(X, "a", ONE), {"x": value})

    def test_a_case_of_no_choice_ahead_of_its_rows(self):
        for value in self.others_than(CHOICE):
            self.stops(Misfit, case(X, ("a", "x", ONE)), {"x": value})
            self.stops(Misfit, case(X), {"x": value})
            for fault in RUN_FAULTS.values():
                self.stops(Misfit, case(X, ("a", "x", fault)), {"x": value})

    def test_more_or_fewer_args_than_params(self):
        for args in ([], [ONE], [ONE, ONE, ONE]):
            self.stops(Misfit, call("two", *args), {}, DEEDS)
        self.stops(Misfit, call("none", ONE), {}, DEEDS)

    def test_the_number_of_args_behind_the_args(self):
        for refusal, fault in RUN_FAULTS.items():
            self.stops(refusal, call("two", fault), {}, DEEDS)
            self.stops(refusal, call("two", ONE, ONE, fault), {}, DEEDS)
            self.stops(refusal, call("none", fault), {}, DEEDS)

    def test_the_number_of_args_ahead_of_the_deeds_tree(self):
        for fault in RUN_FAULTS.values():
            self.stops(Misfit, call("bad", ONE), {}, [("bad", [], fault)])

    def test_behind_all_parts(self):
        for refusal, fault in RUN_FAULTS.items():
            for word in (add, take, part, less):
                self.stops(refusal, word(YES, fault))
            self.stops(refusal, put(ONE, "a", fault))
            self.stops(refusal, call("two", YES, fault), {}, DEEDS)

    def test_names_may_hold_what_is_not_asked_for(self):
        self.comes_to({"a": 5, "b": True, "c": {"a": 1}, "d": ("a", 1)},
                      record(a=name("a"), b=name("b"), c=name("c"), d=name("d")),
                      {"a": NUMBER, "b": TRUE, "c": RECORD, "d": CHOICE, "e": ("b", 2)})


class FromTheLeft(Asking):
    """Whichever refusal is come to first; nothing behind it is reckoned."""

    # Trees with holes for two parts that are both reckoned, the left one first.
    PAIRS = [add, take, part, less,
             lambda one, other: let("x", one, other),
             lambda one, other: when(let("x", one, YES), other, ONE),
             lambda one, other: when(let("x", one, NO), ONE, other),
             lambda one, other: record(b=one, a=other),
             lambda one, other: record(z=ONE, y=one, x=TWO, w=other, v=ONE),
             lambda one, other: put(one, "a", other),
             lambda one, other: case(choice("a", one), ("a", "x", other)),
             lambda one, other: case(choice("a", one), ("b", "x", ONE), ("a", "x", other)),
             lambda one, other: again(1, "x", one, other),
             lambda one, other: call("two", one, other),
             lambda one, other: call("two", let("x", call("two", one, ONE), X), other),
             lambda one, other: add(field(record(a=one), "a"), choice("a", other))]

    def test_of_two_faults_the_left_one(self):
        for floor in self.PAIRS:
            for first, fault in RUN_FAULTS.items():
                self.stops(first, floor(fault, ONE), {}, DEEDS)
                for other in RUN_FAULTS.values():
                    self.stops(first, floor(fault, other), {}, DEEDS)

    def test_a_fault_on_the_right_alone(self):
        for floor in self.PAIRS:
            for refusal, fault in RUN_FAULTS.items():
                self.stops(refusal, floor(ONE, fault), {}, DEEDS)

    def test_a_fault_in_the_only_part(self):
        for refusal, fault in RUN_FAULTS.items():
            self.stops(refusal, choice("a", fault))
            self.stops(refusal, field(fault, "a"))
            self.stops(refusal, case(fault, ("a", "x", ONE)))
            self.stops(refusal, when(fault, ONE, ONE))
            self.stops(refusal, again(0, "x", fault, ONE))
            self.stops(refusal, call("bad"), {}, [("bad", [], fault)])

    def test_a_fault_in_a_later_round(self):
        self.stops(ByNought, again(3, "x", num(2), part(ONE, X)))
        self.comes_to(0, again(1, "x", num(2), part(ONE, X)))
        self.stops(Misfit, again(2, "x", ONE, less(X, ONE)))
        self.stops(LostShape, again(2, "x", choice("a", ONE), case(X, ("a", "y", choice("b", Y)))))
        self.stops(LostField, again(2, "x", record(a=ONE, b=TWO), record(b=field(X, "a"))))
        self.stops(TooGreat, again(9, "x", num(MOST // 300), add(X, X)))

    def test_args_ahead_of_the_deeds_tree(self):
        for first, fault in RUN_FAULTS.items():
            for second, other in RUN_FAULTS.items():
                deeds = [("bad", [("x", NUM)], other)]
                self.stops(first, call("bad", fault), {}, deeds)
                self.stops(second, call("bad", ONE), {}, deeds)
                self.stops(second, add(call("bad", ONE), fault), {}, deeds)


if __name__ == "__main__":
    unittest.main()
