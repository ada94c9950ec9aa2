"""[1]: nothing that is handed in is changed, and nothing is kept between two calls."""

import unittest
from copy import deepcopy

from kindsure.kinds import fits, is_of, meeting
from small_kinds import DEEP_KINDS, DEEP_VALUES, NUM, TRUTH, cho, rec
from test_meeting import meeting_or_none

KIND = rec(a=cho(b=rec(c=NUM, d=TRUTH), e=NUM), f=rec(g=cho(h=NUM)), i=NUM)
OTHER = rec(a=cho(b=rec(c=NUM), j=rec(k=TRUTH)), f=rec(g=cho(h=TRUTH)), l=NUM)
MET = rec(a=cho(b=rec(c=NUM), e=NUM, j=rec(k=TRUTH)), f=rec())
VALUE = {"a": ("b", {"c": 1, "d": True}), "f": {"g": ("h", 2)}, "i": 3, "m": {}}


def as_written(thing):
    """The thing with the order of its parts, which == does not see."""
    return repr(thing)


class Unchanged(unittest.TestCase):
    def check(self, function, one, two):
        before = deepcopy((one, two))
        first = deepcopy(function(one, two))
        self.assertEqual(as_written((one, two)), as_written(before))
        self.assertEqual(function(one, two), first)
        self.assertEqual(as_written((one, two)), as_written(before))

    def test_values_and_kinds_stay_as_they_were(self):
        self.check(is_of, VALUE, KIND)
        self.check(is_of, VALUE, OTHER)
        self.assertIs(is_of(VALUE, KIND), True)
        self.assertIs(is_of(VALUE, OTHER), False)

    def test_kinds_that_fit_or_not_stay_as_they_were(self):
        for kind in (KIND, OTHER, MET):
            for other in (KIND, OTHER, MET):
                self.check(fits, kind, other)

    def test_kinds_that_meet_or_not_stay_as_they_were(self):
        self.check(meeting, KIND, OTHER)
        self.check(meeting, KIND, KIND)
        self.check(meeting, KIND[1]["a"], OTHER[1]["a"])
        self.check(meeting_or_none, KIND[1]["f"][1]["g"], OTHER[1]["f"][1]["g"])
        self.check(meeting_or_none, KIND, cho(a=NUM))
        self.assertEqual(meeting(KIND, OTHER), MET)

    def test_a_small_world_stays_as_it_was(self):
        before = as_written((DEEP_KINDS, DEEP_VALUES))
        for kind in DEEP_KINDS:
            for value in DEEP_VALUES:
                is_of(value, kind)
            for other in DEEP_KINDS:
                fits(kind, other)
                meeting_or_none(kind, other)
        self.assertEqual(as_written((DEEP_KINDS, DEEP_VALUES)), before)


class NothingKept(unittest.TestCase):
    def test_the_answer_follows_what_is_handed_in_now(self):
        kind, other, value = rec(a=NUM), rec(a=NUM), {"a": 1}
        self.assertEqual((is_of(value, kind), fits(kind, other), meeting(kind, other)), (True, True, rec(a=NUM)))
        kind[1]["a"] = TRUTH
        self.assertEqual((is_of(value, kind), fits(kind, other), meeting(kind, other)), (False, False, rec()))
        value["a"] = False
        other[1]["a"] = TRUTH
        self.assertEqual((is_of(value, kind), fits(kind, other), meeting(kind, other)), (True, True, rec(a=TRUTH)))

    def test_a_refusal_leaves_nothing_behind(self):
        for _ in range(2):
            self.assertIsNone(meeting_or_none(cho(a=NUM), cho(a=TRUTH)))
            self.assertEqual(meeting(cho(a=NUM), cho(b=TRUTH)), cho(a=NUM, b=TRUTH))

    def test_what_is_told_is_apart_from_what_was_handed_in(self):
        kind, other = cho(a=rec(b=NUM), c=rec(d=NUM)), cho(c=rec(d=NUM), e=rec(f=NUM))
        before = deepcopy((kind, other))
        found = meeting(kind, other)
        for shape in ("a", "c", "e"):
            found[1][shape][1].clear()
        found[1].clear()
        self.assertEqual((kind, other), before)
        self.assertEqual(meeting(kind, other), cho(a=rec(b=NUM), c=rec(d=NUM), e=rec(f=NUM)))


if __name__ == "__main__":
    unittest.main()
