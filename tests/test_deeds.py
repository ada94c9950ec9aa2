"""[8]: what a deed's tree knows."""

import unittest

from asking import Asking
from kindsure.errors import LostName, NoName
from small_kinds import NUM, TRUTH, rec
from trees import (EMPTY, ONE, RUN_FAULTS, TWO, UNSURE_FAULTS, X, Y, YES, add, call, case, choice, let, name, num,
                   record)

ASKS_X = ("asks", [], X)
LATE = ("late", [], ONE)


class Knowing(Asking):
    def not_there(self, tree, names=None, deeds=None, kinds=None):
        """Neither the judge nor the reckoning finds the name, or the deed."""
        self.stops(LostName, tree, names, deeds)
        self.unsure(NoName, tree, kinds, deeds)

    def test_params(self):
        deeds = [("sum", [("x", NUM), ("y", NUM)], add(X, Y))]
        self.comes_to(3, call("sum", ONE, TWO), {}, deeds)
        self.is_told(NUM, call("sum", ONE, TWO), {}, deeds)

    def test_a_name_of_the_program_is_not_there(self):
        self.not_there(call("asks"), {"x": 1}, [ASKS_X], {"x": NUM})
        self.not_there(let("x", ONE, call("asks")), {}, [ASKS_X], {})
        self.not_there(case(choice("s", ONE), ("s", "x", call("asks"))), {}, [ASKS_X], {})
        asks_y = ("asks", [("x", NUM)], Y)
        self.not_there(call("asks", ONE), {"y": 1, "x": 2}, [asks_y], {"y": NUM, "x": NUM})

    def test_a_param_of_another_deed_is_not_there(self):
        deeds = [ASKS_X, ("hands", [("x", NUM)], call("asks"))]
        self.not_there(call("hands", ONE), {}, deeds, {})
        deeds = [("has", [("x", NUM)], X), ASKS_X]
        self.not_there(add(call("has", ONE), call("asks")), {}, deeds, {})

    def test_a_name_told_within_a_deed_is_not_there_behind_it(self):
        deeds = [("tells", [("x", NUM)], let("y", X, Y))]
        self.not_there(add(call("tells", ONE), Y), {}, deeds, {})
        self.not_there(add(call("tells", ONE), X), {}, deeds, {})
        self.comes_to(9, add(call("tells", ONE), Y), {"y": 8}, deeds)

    def test_deeds_told_ahead(self):
        deeds = [("one", [], ONE), ("two", [], add(call("one"), call("one"))),
                 ("three", [], add(call("one"), call("two")))]
        self.comes_to(3, call("three"), {}, deeds)
        self.is_told(NUM, call("three"), {}, deeds)

    def test_a_deed_does_not_know_itself(self):
        deeds = [("self", [("x", NUM)], call("self", X))]
        self.not_there(call("self", ONE), {}, deeds, {})

    def test_a_deed_does_not_know_one_told_behind(self):
        self.not_there(call("early"), {}, [("early", [], call("late")), LATE], {})
        deeds = [("first", [], ONE), ("early", [], add(call("first"), call("late"))), LATE]
        self.not_there(call("early"), {}, deeds, {})

    def test_not_by_way_of_another_deed_either(self):
        deeds = [("first", [], call("last")), ("last", [], call("first"))]
        self.not_there(call("last"), {}, deeds, {})

    def test_behind_a_call_the_caller_knows_what_it_knew(self):
        deeds = [("one", [("x", NUM)], X), ("two", [("x", NUM)], add(call("one", TWO), add(call("one", ONE), X)))]
        self.comes_to({"a": 13, "b": 7}, record(a=call("two", add(X, num(10))), b=call("one", add(X, Y))),
                      {"x": 0, "y": 7}, deeds)

    def test_the_program_knows_all_deeds_and_no_other_one(self):
        self.comes_to(1, call("late"), {}, [ASKS_X, LATE])
        self.not_there(call("gone"), {"gone": 1}, [LATE], {"gone": NUM})
        self.not_there(call("gone"), {}, [], {})
        self.not_there(name("late"), {}, [LATE], {})

    def test_deeds_and_names_may_be_called_alike(self):
        deeds = [("x", [("x", NUM)], add(X, ONE))]
        self.comes_to(6, call("x", X), {"x": 5}, deeds)
        self.is_told(NUM, call("x", X), {"x": NUM}, deeds)


class JudgedAhead(Asking):
    """[9], [10]: deeds are judged in their order ahead of the program, whether or not they are called."""

    def test_a_deed_that_is_not_called_is_refused(self):
        for refusal, fault in UNSURE_FAULTS.items():
            self.unsure(refusal, ONE, {}, [("bad", [], fault)])
            self.unsure(refusal, ONE, {}, [LATE, ("bad", [("x", NUM)], fault), ("good", [], ONE)])

    def test_deeds_are_judged_in_their_order(self):
        for first, fault in UNSURE_FAULTS.items():
            for second, other in UNSURE_FAULTS.items():
                self.unsure(first, ONE, {}, [("one", [], fault), ("two", [], other)])
                self.unsure(first, call("two"), {}, [("one", [], fault), ("two", [], other)])

    def test_deeds_are_judged_ahead_of_the_program(self):
        for first, fault in UNSURE_FAULTS.items():
            for second, other in UNSURE_FAULTS.items():
                self.unsure(first, other, {}, [("one", [], fault)])

    def test_a_deed_is_judged_with_its_params_kinds_alone(self):
        deeds = [("has", [("x", rec(a=TRUTH))], ("field", X, "a"))]
        self.is_told(NUM, X, {"x": NUM}, deeds)
        self.unsure(NoName, X, {"x": NUM}, [ASKS_X])

    def test_the_reckoning_looks_at_no_deed_that_is_not_called(self):
        for fault in RUN_FAULTS.values():
            self.comes_to(1, ONE, {}, [("bad", [], fault)])
            self.comes_to(1, call("good"), {}, [("bad", [("x", NUM)], fault), ("good", [], ONE)])
        self.comes_to(1, ONE, {}, [("early", [], call("late")), LATE])

    def test_kinds_of_params_are_nothing_to_the_reckoning(self):
        deeds = [("same", [("x", rec(a=NUM))], X)]
        for value in (1, True, {}, ("s", 1)):
            self.comes_to(value, call("same", Y), {"y": value}, deeds)
        self.comes_to({"x": True, "y": {}}, call("both", YES, EMPTY), {},
                      [("both", [("x", NUM), ("y", TRUTH)], record(x=X, y=Y))])


if __name__ == "__main__":
    unittest.main()
