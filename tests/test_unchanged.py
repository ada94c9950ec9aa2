"""[1]: nothing that is handed in is changed, and nothing is kept between two calls."""

import unittest
from copy import deepcopy

from asking import outcome
from kindsure.judging import judged
from kindsure.kinds import fits, is_of, meeting
from kindsure.reckoning import reckoned
from programs import Maker
from small_kinds import DEEP_KINDS, DEEP_VALUES, NUM, TRUTH, cho, rec
from test_meeting import meeting_or_none
from trees import (ONE, RUN_FAULTS, UNSURE_FAULTS, X, Y, YES, add, again, call, case, choice, field, let, num, put,
                   record, when)

KIND = rec(a=cho(b=rec(c=NUM, d=TRUTH), e=NUM), f=rec(g=cho(h=NUM)), i=NUM)
OTHER = rec(a=cho(b=rec(c=NUM), j=rec(k=TRUTH)), f=rec(g=cho(h=TRUTH)), l=NUM)
MET = rec(a=cho(b=rec(c=NUM), e=NUM, j=rec(k=TRUTH)), f=rec())
VALUE = {"a": ("b", {"c": 1, "d": True}), "f": {"g": ("h", 2)}, "i": 3, "m": {}}


def as_written(thing):
    """The thing with the order of its parts, which == does not see."""
    return repr(thing)


class Unchanged(unittest.TestCase):
    def check(self, function, one, two):
        before = deepcopy((one, two))
        first = deepcopy(function(one, two))
        self.assertEqual(as_written((one, two)), as_written(before))
        self.assertEqual(function(one, two), first)
        self.assertEqual(as_written((one, two)), as_written(before))

    def test_values_and_kinds_stay_as_they_were(self):
        self.check(is_of, VALUE, KIND)
        self.check(is_of, VALUE, OTHER)
        self.assertIs(is_of(VALUE, KIND), True)
        self.assertIs(is_of(VALUE, OTHER), False)

    def test_kinds_that_fit_or_not_stay_as_they_were(self):
        for kind in (KIND, OTHER, MET):
            for other in (KIND, OTHER, MET):
                self.check(fits, kind, other)

    def test_kinds_that_meet_or_not_stay_as_they_were(self):
        self.check(meeting, KIND, OTHER)
        self.check(meeting, KIND, KIND)
        self.check(meeting, KIND[1]["a"], OTHER[1]["a"])
        self.check(meeting_or_none, KIND[1]["f"][1]["g"], OTHER[1]["f"][1]["g"])
        self.check(meeting_or_none, KIND, cho(a=NUM))
        self.assertEqual(meeting(KIND, OTHER), MET)

    def test_a_small_world_stays_as_it_was(self):
        before = as_written((DEEP_KINDS, DEEP_VALUES))
        for kind in DEEP_KINDS:
            for value in DEEP_VALUES:
                is_of(value, kind)
            for other in DEEP_KINDS:
                fits(kind, other)
                meeting_or_none(kind, other)
        self.assertEqual(as_written((DEEP_KINDS, DEEP_VALUES)), before)


class NothingKept(unittest.TestCase):
    def test_the_answer_follows_what_is_handed_in_now(self):
        kind, other, value = rec(a=NUM), rec(a=NUM), {"a": 1}
        self.assertEqual((is_of(value, kind), fits(kind, other), meeting(kind, other)), (True, True, rec(a=NUM)))
        kind[1]["a"] = TRUTH
        self.assertEqual((is_of(value, kind), fits(kind, other), meeting(kind, other)), (False, False, rec()))
        value["a"] = False
        other[1]["a"] = TRUTH
        self.assertEqual((is_of(value, kind), fits(kind, other), meeting(kind, other)), (True, True, rec(a=TRUTH)))

    def test_a_refusal_leaves_nothing_behind(self):
        for _ in range(2):
            self.assertIsNone(meeting_or_none(cho(a=NUM), cho(a=TRUTH)))
            self.assertEqual(meeting(cho(a=NUM), cho(b=TRUTH)), cho(a=NUM, b=TRUTH))

    def test_what_is_told_is_apart_from_what_was_handed_in(self):
        kind, other = cho(a=rec(b=NUM), c=rec(d=NUM)), cho(c=rec(d=NUM), e=rec(f=NUM))
        before = deepcopy((kind, other))
        found = meeting(kind, other)
        for shape in ("a", "c", "e"):
            found[1][shape][1].clear()
        found[1].clear()
        self.assertEqual((kind, other), before)
        self.assertEqual(meeting(kind, other), cho(a=rec(b=NUM), c=rec(d=NUM), e=rec(f=NUM)))


RECORD = rec(a=NUM, b=cho(c=rec(d=TRUTH)))
WORTH = {"a": 1, "b": ("c", {"d": True, "e": 5}), "f": {"g": 2}}
DEEDS = [("first", [("x", RECORD), ("y", NUM)], put(X, "a", Y)),
         ("second", [("x", RECORD)], case(field(X, "b"), ("c", "x", put(X, "d", ONE)), ("c", "y", X)))]
TREES = [X, record(a=X, b=Y), put(X, "a", YES), put(put(X, "f", X), "b", X), field(X, "b"), let("x", Y, add(X, Y)),
         when(YES, X, put(X, "a", num(3))), case(field(X, "b"), ("c", "x", put(X, "e", YES))),
         again(9, "x", X, put(X, "a", add(field(X, "a"), ONE))), choice("c", X), call("first", X, Y),
         call("second", call("first", X, Y)), case(choice("s", X), ("t", "y", Y), ("s", "y", Y), ("s", "x", X))]
FAULTS = list(RUN_FAULTS.values()) + list(UNSURE_FAULTS.values())


class ProgramsUnchanged(unittest.TestCase):
    def check(self, function, deeds, names, tree):
        """The same answer or refusal twice, and all as it was before, also in its order."""
        before = as_written((deeds, names, tree))
        first = as_written(outcome(function, deeds, names, tree))
        self.assertEqual(as_written((deeds, names, tree)), before)
        self.assertEqual(as_written(outcome(function, deeds, names, tree)), first)
        self.assertEqual(as_written((deeds, names, tree)), before)
        return first

    def test_deeds_names_and_trees_stay_as_they_were(self):
        for tree in TREES:
            for part in [tree] + [let("z", tree, fault) for fault in FAULTS]:
                self.check(judged, DEEDS, {"x": RECORD, "y": NUM}, part)
                self.check(reckoned, DEEDS, {"x": WORTH, "y": 7}, part)

    def test_programs_by_seed_stay_as_they_were_and_answer_alike_in_any_order(self):
        maker = Maker(5, 20)
        asked, answers = [], []
        for _ in range(300):
            deeds, kinds, values, tree = maker.program()
            asked += [(judged, deeds, kinds, tree), (reckoned, deeds, values, tree)]
        for row in asked:
            answers.append(self.check(*row))
        for row, answer in reversed(list(zip(asked, answers))):
            self.assertEqual(as_written(outcome(*row)), answer)

    def test_copies_of_what_was_handed_in_answer_alike(self):
        for tree in TREES:
            kinds, values = {"x": RECORD, "y": NUM}, {"x": WORTH, "y": 7}
            self.assertEqual(judged(DEEDS, kinds, tree), judged(*deepcopy((DEEDS, kinds, tree))))
            self.assertEqual(reckoned(DEEDS, values, tree), reckoned(*deepcopy((DEEDS, values, tree))))

    def test_the_kind_that_is_told_is_apart_from_what_was_handed_in(self):
        kinds = {"x": deepcopy(RECORD), "y": NUM}
        told = judged(DEEDS, kinds, X)
        told[1]["b"][1]["c"][1].clear()
        told[1].clear()
        self.assertEqual(kinds["x"], RECORD)
        self.assertEqual(judged(DEEDS, kinds, X), RECORD)


class NothingKeptOfPrograms(unittest.TestCase):
    def test_no_name_and_no_deed_of_an_earlier_call(self):
        for function in (judged, reckoned):
            names = {"x": RECORD, "y": NUM} if function is judged else {"x": WORTH, "y": 7}
            lost = "NoName" if function is judged else "LostName"
            function(DEEDS, names, call("first", X, Y))
            self.assertEqual(outcome(function, DEEDS, {}, X).__name__, lost)
            self.assertEqual(outcome(function, [], names, call("first", X, Y)).__name__, lost)
            self.assertEqual(outcome(function, DEEDS[1:], names, call("first", X, Y)).__name__, lost)
            function(DEEDS, names, call("first", X, Y))

    def test_the_answer_follows_what_is_handed_in_now(self):
        kinds, values, deeds = {"x": NUM}, {"x": 1}, [("deed", [], ONE)]
        tree = record(a=X, b=call("deed"))
        self.assertEqual((judged(deeds, kinds, tree), reckoned(deeds, values, tree)),
                         (rec(a=NUM, b=NUM), {"a": 1, "b": 1}))
        kinds["x"], values["x"], deeds[0] = TRUTH, False, ("deed", [], num(5))
        self.assertEqual((judged(deeds, kinds, tree), reckoned(deeds, values, tree)),
                         (rec(a=TRUTH, b=NUM), {"a": False, "b": 5}))
        tree[1].pop()
        self.assertEqual((judged(deeds, kinds, tree), reckoned(deeds, values, tree)), (rec(a=TRUTH), {"a": False}))

    def test_a_refusal_leaves_nothing_behind(self):
        for fault in FAULTS:
            outcome(judged, [("bad", [], fault)], {"x": NUM}, X)
            outcome(reckoned, [], {"x": 9}, add(X, let("y", X, fault)))
            self.assertEqual(judged([], {}, let("y", ONE, Y)), NUM)
            self.assertEqual(reckoned([], {}, let("y", ONE, Y)), 1)
            self.assertEqual(outcome(judged, [], {}, X).__name__, "NoName")
            self.assertEqual(outcome(reckoned, [], {}, X).__name__, "LostName")


if __name__ == "__main__":
    unittest.main()
