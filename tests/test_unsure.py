"""[9]: what the judge refuses, why, and which refusal comes first."""

import unittest

from asking import Asking
from kindsure.errors import NoField, NoName, NotSo, Uncovered, Unlike, Unsteady
from small_kinds import NUM, TRUTH, cho, rec
from trees import (EMPTY, ONE, TWO, UNSURE_FAULTS, X, Y, YES, add, again, call, case, choice, field, less, let, name,
                   num, part, put, record, take, when)

KINDS = {"num": NUM, "truth": TRUTH, "record": rec(a=NUM), "choice": cho(a=NUM)}
POINT = rec(a=NUM, b=NUM)
DEEDS = [("two", [("x", NUM), ("y", TRUTH)], X), ("none", [], ONE), ("point", [("x", POINT)], X),
         ("either", [("x", cho(a=NUM, b=TRUTH))], X), ("any", [("x", rec())], X)]


class Faulty(Asking):
    def of_others(self, make):
        """A scope of one name for each kind of another make."""
        return [{"x": kind} for other, kind in KINDS.items() if other != make]

    def test_the_faults_are_what_they_are_called(self):
        for refusal, fault in UNSURE_FAULTS.items():
            self.unsure(refusal, fault)


class NoNames(Faulty):
    def test_a_name_that_is_not_there(self):
        self.unsure(NoName, X)
        self.unsure(NoName, X, {"y": NUM})
        self.unsure(NoName, let("x", X, ONE))
        self.unsure(NoName, let("y", ONE, X))
        self.unsure(NoName, again(0, "x", X, ONE))
        self.unsure(NoName, again(0, "y", ONE, X))
        self.unsure(NoName, case(choice("a", ONE), ("a", "y", X)))
        self.unsure(NoName, case(choice("a", X), ("a", "x", ONE)))

    def test_a_name_that_was_there_within_alone(self):
        self.unsure(NoName, add(let("x", ONE, X), X))
        self.unsure(NoName, add(again(1, "x", ONE, X), X))
        self.unsure(NoName, add(case(choice("a", ONE), ("a", "x", X)), X))

    def test_in_what_no_run_comes_to(self):
        self.unsure(NoName, when(YES, ONE, X))
        self.unsure(NoName, again(0, "y", ONE, X))
        self.unsure(NoName, case(Y, ("a", "y", ONE), ("b", "y", X)), {"y": cho(a=NUM, b=NUM)})

    def test_a_deed_that_is_not_told_ahead_of_the_args(self):
        self.unsure(NoName, call("gone"))
        self.unsure(NoName, call("gone", ONE), {"gone": NUM}, DEEDS)
        for fault in UNSURE_FAULTS.values():
            self.unsure(NoName, call("gone", fault))
            self.unsure(NoName, call("gone", ONE, fault), {}, DEEDS)
            self.unsure(NoName, ONE, {}, [("first", [], call("first", fault))])
            self.unsure(NoName, ONE, {}, [("first", [], call("none", fault)), ("none", [], ONE)])


class NotSos(Faulty):
    def test_what_is_no_num(self):
        for names in self.of_others("num"):
            for word in (add, take, part, less):
                self.unsure(NotSo, word(X, ONE), names)
                self.unsure(NotSo, word(ONE, X), names)
                self.unsure(NotSo, word(X, X), names)

    def test_an_if_by_what_is_no_truth(self):
        for names in self.of_others("truth"):
            self.unsure(NotSo, when(X, ONE, TWO), names)

    def test_a_field_and_a_with_of_no_record(self):
        for names in self.of_others("record"):
            self.unsure(NotSo, field(X, "a"), names)
            self.unsure(NotSo, put(X, "a", ONE), names)

    def test_a_case_of_no_choice(self):
        for names in self.of_others("choice"):
            self.unsure(NotSo, case(X, ("a", "x", ONE)), names)
            self.unsure(NotSo, case(X), names)

    def test_more_or_fewer_args_than_params(self):
        for args in ([], [ONE], [ONE, YES, ONE], [ONE, YES, YES]):
            self.unsure(NotSo, call("two", *args), {}, DEEDS)
        self.unsure(NotSo, call("none", ONE), {}, DEEDS)

    def test_an_arg_whose_kind_does_not_fit(self):
        self.unsure(NotSo, call("two", YES, YES), {}, DEEDS)
        self.unsure(NotSo, call("two", ONE, ONE), {}, DEEDS)
        self.unsure(NotSo, call("two", YES, ONE), {}, DEEDS)
        self.unsure(NotSo, call("point", record(a=ONE)), {}, DEEDS)
        self.unsure(NotSo, call("point", record(a=ONE, b=YES)), {}, DEEDS)
        self.unsure(NotSo, call("point", record(a=ONE, c=ONE)), {}, DEEDS)
        self.unsure(NotSo, call("either", choice("c", ONE)), {}, DEEDS)
        self.unsure(NotSo, call("either", choice("a", YES)), {}, DEEDS)
        self.unsure(NotSo, call("either", X), {"x": cho(a=NUM, b=TRUTH, c=NUM)}, DEEDS)
        for kind in (NUM, TRUTH, cho(a=NUM)):
            self.unsure(NotSo, call("any", X), {"x": kind}, DEEDS)

    def test_an_arg_that_fits_is_not_taken_for_more_than_its_param(self):
        self.unsure(NoField, field(call("point", record(a=ONE, b=ONE, c=ONE)), "c"), {}, DEEDS)
        self.unsure(NoField, field(call("any", record(a=ONE)), "a"), {}, DEEDS)


class NoFields(Faulty):
    def test_a_field_that_the_records_kind_has_not(self):
        self.unsure(NoField, field(EMPTY, "a"))
        self.unsure(NoField, field(record(a=ONE), "b"))
        self.unsure(NoField, field(X, "b"), {"x": rec(a=rec(b=NUM))})
        self.unsure(NoField, field(when(YES, record(a=ONE, b=ONE), record(a=ONE)), "b"))
        self.unsure(NoField, field(again(0, "x", record(a=ONE), EMPTY), "a"))


class Uncovereds(Faulty):
    def test_rows_that_lack_a_shape(self):
        self.unsure(Uncovered, case(choice("a", ONE)))
        self.unsure(Uncovered, case(choice("a", ONE), ("b", "x", ONE), ("c", "x", ONE)))
        either = {"x": cho(a=NUM, b=NUM)}
        self.unsure(Uncovered, case(X, ("a", "x", ONE)), either)
        self.unsure(Uncovered, case(X, ("b", "x", ONE), ("b", "x", ONE), ("c", "x", ONE)), either)
        self.unsure(Uncovered, case(when(YES, choice("a", ONE), choice("b", ONE)), ("a", "x", ONE)))

    def test_no_shape_less_is_asked(self):
        self.is_told(NUM, case(X, ("b", "x", ONE), ("c", "x", ONE), ("a", "x", ONE)), {"x": cho(a=NUM, b=NUM)})


class Unlikes(Faulty):
    def test_an_if(self):
        for one, kind in KINDS.items():
            for other, against in KINDS.items():
                if one != other:
                    self.unsure(Unlike, when(YES, X, Y), {"x": kind, "y": against})
        self.unsure(Unlike, when(YES, choice("a", ONE), choice("a", YES)))
        self.unsure(Unlike, when(YES, choice("a", choice("b", ONE)), choice("a", choice("b", EMPTY))))

    def test_the_rows_of_a_case(self):
        three = {"x": cho(a=NUM, b=TRUTH, c=NUM)}
        self.unsure(Unlike, case(X, ("a", "x", X), ("b", "x", X), ("c", "x", X)), three)
        self.unsure(Unlike, case(X, ("a", "x", X), ("c", "x", X), ("b", "x", X)), three)
        self.unsure(Unlike, case(X, ("a", "x", choice("s", X)), ("b", "x", choice("t", X)), ("c", "x", choice(
            "t", X))), three)
        self.is_told(cho(s=NUM, t=TRUTH), case(
            X, ("a", "x", choice("s", X)), ("b", "x", choice("t", X)), ("c", "x", choice("s", X))), three)

    def test_an_again(self):
        self.unsure(Unlike, again(0, "x", ONE, YES))
        self.unsure(Unlike, again(1, "x", ONE, record(a=X)))
        self.unsure(Unlike, again(9, "x", choice("a", ONE), choice("a", X)))

    def test_an_again_in_a_later_round(self):
        # In the second round x may be of the shape b, too, and from there it goes on with a truth at the shape a.
        self.unsure(Unlike, again(1, "x", choice("a", ONE), case(
            X, ("a", "y", choice("b", EMPTY)), ("b", "y", choice("a", YES)))))


class Unsteadies(Faulty):
    def test_kinds_that_grow_with_every_round(self):
        for times in (0, 1, 9):
            self.unsure(Unsteady, again(times, "x", choice("a", ONE), choice("b", X)))
            self.unsure(Unsteady, again(times, "x", choice("no", EMPTY), choice("yes", record(a=ONE, b=X))))
            self.unsure(Unsteady, again(times, "x", record(a=choice("b", ONE)), record(a=choice("c", X))))


class Order(Faulty):
    """Parts first, from the left; then what the whole asks."""

    # Trees with holes for two parts that are both judged, the left one first.
    PAIRS = [add, take, part, less,
             lambda one, other: let("x", one, other),
             lambda one, other: when(one, other, ONE),
             lambda one, other: when(one, ONE, other),
             lambda one, other: when(ONE, one, other),
             lambda one, other: when(YES, one, other),
             lambda one, other: record(b=one, a=other),
             lambda one, other: record(z=ONE, y=one, x=TWO, w=other, v=ONE),
             lambda one, other: put(one, "a", other),
             lambda one, other: case(choice("a", one), ("a", "x", other)),
             lambda one, other: case(name("both"), ("b", "x", one), ("a", "x", other)),
             lambda one, other: case(name("both"), ("a", "x", one), ("c", "x", X), ("b", "x", other)),
             lambda one, other: again(0, "x", one, other),
             lambda one, other: again(1, "x", one, other),
             lambda one, other: call("two", one, other),
             lambda one, other: call("none", one, ONE, other),
             lambda one, other: call("two", let("x", call("two", one, ONE), X), other)]
    NAMES = {"both": cho(a=NUM, b=NUM)}

    def test_of_two_faults_the_left_one(self):
        for floor in self.PAIRS:
            for first, fault in UNSURE_FAULTS.items():
                for other in UNSURE_FAULTS.values():
                    self.unsure(first, floor(fault, other), self.NAMES, DEEDS)

    def test_a_fault_on_the_left_ahead_of_what_the_whole_asks(self):
        for floor in self.PAIRS:
            for part_beside in (ONE, YES, EMPTY, choice("a", ONE)):
                for first, fault in UNSURE_FAULTS.items():
                    self.unsure(first, floor(fault, part_beside), self.NAMES, DEEDS)

    def test_a_fault_on_the_right_ahead_of_what_the_whole_asks(self):
        for refusal, fault in UNSURE_FAULTS.items():
            for word in (add, take, part, less):
                self.unsure(refusal, word(YES, fault))
            self.unsure(refusal, when(ONE, ONE, fault))
            self.unsure(refusal, when(ONE, fault, YES))
            self.unsure(refusal, put(ONE, "a", fault))
            self.unsure(refusal, call("two", YES, fault), {}, DEEDS)
            self.unsure(refusal, call("none", fault), {}, DEEDS)
            self.unsure(refusal, call("two", ONE, YES, fault), {}, DEEDS)

    def test_a_fault_in_the_only_part(self):
        for refusal, fault in UNSURE_FAULTS.items():
            self.unsure(refusal, choice("a", fault))
            self.unsure(refusal, field(fault, "a"))
            self.unsure(refusal, case(fault))

    def test_an_ifs_test_that_is_no_truth_ahead_of_sides_without_a_meeting(self):
        self.unsure(NotSo, when(ONE, ONE, YES))
        self.unsure(Unlike, when(YES, ONE, YES))

    def test_no_record_ahead_of_no_field(self):
        self.unsure(NotSo, field(choice("a", ONE), "b"))
        self.unsure(NotSo, field(ONE, "a"))

    def test_of_a_case_what_is_asked_of_the_looked_at_tree_ahead_of_the_rows(self):
        for fault in UNSURE_FAULTS.values():
            self.unsure(NotSo, case(ONE, ("a", "x", fault)))
            self.unsure(NotSo, case(EMPTY, ("a", "x", fault)))
            self.unsure(Uncovered, case(choice("a", ONE), ("b", "x", fault)))
            self.unsure(Uncovered, case(name("both"), ("a", "x", fault)), self.NAMES)
            self.unsure(Uncovered, case(name("both"), ("a", "x", fault), ("a", "x", fault)), self.NAMES)

    def test_all_rows_ahead_of_their_meeting(self):
        three = {"x": cho(a=NUM, b=NUM, c=NUM)}
        for refusal, fault in UNSURE_FAULTS.items():
            self.unsure(refusal, case(X, ("a", "x", ONE), ("b", "x", YES), ("c", "x", fault)), three)
            self.unsure(refusal, case(X, ("a", "x", fault), ("b", "x", YES), ("c", "x", ONE)), three)

    def test_of_an_again_what_it_goes_on_with_ahead_of_the_meeting(self):
        for refusal, fault in UNSURE_FAULTS.items():
            self.unsure(refusal, again(1, "x", ONE, let("y", fault, YES)))

    def test_a_later_round_of_an_again_behind_an_earlier_one(self):
        # The fault stands in a row that is judged from the second round on.
        for refusal, fault in UNSURE_FAULTS.items():
            rows = [("a", "y", choice("b", ONE)), ("b", "y", let("z", fault, choice("b", ONE)))]
            self.unsure(refusal, again(0, "x", choice("a", ONE), case(X, *rows)))
            rows[0] = ("a", "y", record(a=choice("b", ONE)))
            self.unsure(Unlike, again(0, "x", choice("a", ONE), case(X, *rows)))

    def test_all_parts_of_a_large_tree_from_the_left(self):
        holes = [num(at) for at in range(6)]
        for at, refusal in enumerate(UNSURE_FAULTS):
            parts = list(holes)
            parts[at:] = list(UNSURE_FAULTS.values())[at:]
            tree = record(a=add(parts[0], parts[1]), b=let("x", parts[2], choice("s", parts[3])),
                          c=put(record(d=parts[4]), "e", parts[5]))
            self.unsure(refusal, tree)


if __name__ == "__main__":
    unittest.main()
