"""[3] and [6]: the kind in which two kinds meet."""

import unittest

from kindsure.errors import KindError, Stopped, Stuck, Unlike, Unsure
from kindsure.kinds import fits, is_of, meeting
from small_kinds import NUM, TRUTH, WORLDS, cho, floors, many_names, rec, tower

ONE_OF_EACH_MAKE = [NUM, TRUTH, rec(a=NUM), cho(a=NUM)]


def meeting_or_none(kind, other):
    try:
        return meeting(kind, other)
    except Unlike:
        return None


class Meeting(unittest.TestCase):
    def meet(self, kind, other, wanted):
        for one, two in ((kind, other), (other, kind)):
            found = meeting(one, two)
            self.assertEqual(found, wanted, (one, two))
            self.assertTrue(fits(one, found) and fits(two, found), (one, two))

    def unlike(self, kind, other):
        for one, two in ((kind, other), (other, kind)):
            with self.assertRaises(Unlike, msg=(one, two)) as caught:
                meeting(one, two)
            self.assertIs(caught.exception.__class__, Unlike)


class Flat(Meeting):
    def test_num_meets_num_and_truth_meets_truth(self):
        self.meet(NUM, NUM, NUM)
        self.meet(TRUTH, TRUTH, TRUTH)

    def test_kinds_of_unlike_make(self):
        for at, kind in enumerate(ONE_OF_EACH_MAKE):
            for other in ONE_OF_EACH_MAKE[:at]:
                self.unlike(kind, other)
        for kind in (NUM, TRUTH, cho(a=rec())):
            self.unlike(kind, rec())

    def test_unlike_is_caught_by_all_that_stand_above_it(self):
        for above in (Unlike, Unsure, KindError, ValueError):
            with self.assertRaises(above):
                meeting(NUM, TRUTH)
        with self.assertRaises(Unlike) as caught:
            meeting(NUM, TRUTH)
        self.assertNotIsInstance(caught.exception, (Stuck, Stopped))


class Records(Meeting):
    def test_the_same_fields(self):
        self.meet(rec(), rec(), rec())
        self.meet(rec(a=NUM, b=TRUTH), rec(a=NUM, b=TRUTH), rec(a=NUM, b=TRUTH))

    def test_fields_of_one_side_alone_are_left_out(self):
        self.meet(rec(a=NUM), rec(), rec())
        self.meet(rec(a=NUM, b=TRUTH), rec(a=NUM), rec(a=NUM))
        self.meet(rec(a=NUM, b=TRUTH), rec(b=TRUTH, c=NUM), rec(b=TRUTH))
        self.meet(rec(a=NUM), rec(b=NUM), rec())

    def test_fields_of_both_whose_kinds_have_no_meeting_are_left_out(self):
        self.meet(rec(a=NUM), rec(a=TRUTH), rec())
        self.meet(rec(a=NUM, b=TRUTH), rec(a=TRUTH, b=TRUTH), rec(b=TRUTH))
        self.meet(rec(a=rec(), b=NUM), rec(a=cho(c=NUM), b=NUM), rec(b=NUM))
        self.meet(rec(a=cho(c=NUM), b=NUM), rec(a=cho(c=TRUTH), b=NUM), rec(b=NUM))

    def test_a_field_of_both_has_the_meeting_of_its_kinds(self):
        self.meet(rec(a=rec(b=NUM, c=NUM)), rec(a=rec(c=NUM, d=NUM)), rec(a=rec(c=NUM)))
        self.meet(rec(a=cho(b=NUM)), rec(a=cho(c=TRUTH)), rec(a=cho(b=NUM, c=TRUTH)))
        self.meet(rec(a=rec(b=NUM)), rec(a=rec(b=TRUTH)), rec(a=rec()))


class Choices(Meeting):
    def test_the_same_shapes(self):
        self.meet(cho(a=NUM), cho(a=NUM), cho(a=NUM))
        self.meet(cho(a=NUM, b=TRUTH), cho(a=NUM, b=TRUTH), cho(a=NUM, b=TRUTH))

    def test_shapes_of_either_side_stand_in_it(self):
        self.meet(cho(a=NUM), cho(b=TRUTH), cho(a=NUM, b=TRUTH))
        self.meet(cho(a=NUM), cho(a=NUM, b=TRUTH), cho(a=NUM, b=TRUTH))
        self.meet(cho(a=NUM, b=TRUTH), cho(b=TRUTH, c=rec(d=NUM)), cho(a=NUM, b=TRUTH, c=rec(d=NUM)))
        self.meet(cho(a=rec(b=cho(c=NUM))), cho(d=cho(e=rec())), cho(a=rec(b=cho(c=NUM)), d=cho(e=rec())))

    def test_a_shape_of_both_has_the_meeting_of_its_kinds(self):
        self.meet(cho(a=rec(b=NUM, c=NUM)), cho(a=rec(c=NUM, d=NUM)), cho(a=rec(c=NUM)))
        self.meet(cho(a=cho(b=NUM)), cho(a=cho(c=NUM)), cho(a=cho(b=NUM, c=NUM)))
        self.meet(cho(a=rec(b=NUM), c=NUM), cho(a=rec(b=TRUTH), d=NUM), cho(a=rec(), c=NUM, d=NUM))

    def test_a_shape_of_both_whose_kinds_have_no_meeting(self):
        self.unlike(cho(a=NUM), cho(a=TRUTH))
        self.unlike(cho(a=NUM, b=TRUTH), cho(a=TRUTH, b=TRUTH))
        self.unlike(cho(a=NUM, b=TRUTH), cho(a=TRUTH, c=TRUTH))
        self.unlike(cho(a=rec()), cho(a=cho(b=NUM)))
        self.unlike(cho(a=cho(b=NUM)), cho(a=cho(b=TRUTH)))
        self.unlike(cho(a=cho(b=cho(c=NUM), d=NUM)), cho(a=cho(b=cho(c=TRUTH), d=NUM)))


class Nested(Meeting):
    def test_a_field_is_left_out_just_where_it_has_no_meeting(self):
        self.meet(
            rec(a=rec(b=cho(c=cho(d=NUM)), e=NUM), f=TRUTH),
            rec(a=rec(b=cho(c=cho(d=TRUTH)), e=NUM), f=TRUTH),
            rec(a=rec(e=NUM), f=TRUTH))

    def test_a_record_within_a_choice_makes_the_choice_meet(self):
        self.meet(
            cho(a=cho(b=rec(c=NUM, d=NUM)), e=NUM),
            cho(a=cho(b=rec(c=TRUTH, d=NUM), f=TRUTH)),
            cho(a=cho(b=rec(d=NUM), f=TRUTH), e=NUM))

    def test_words_of_the_kinds_are_names_like_others(self):
        self.meet(rec(num=TRUTH, record=NUM), rec(num=TRUTH, choice=NUM), rec(num=TRUTH))
        self.meet(cho(num=TRUTH), cho(record=rec(truth=NUM)), cho(num=TRUTH, record=rec(truth=NUM)))

    def test_the_order_of_the_parts_does_not_count(self):
        for make in ("record", "choice"):
            forth = (make, {"a": NUM, "b": rec(c=NUM, d=TRUTH), "e": TRUTH})
            back = (make, {"e": TRUTH, "b": rec(d=TRUTH, c=NUM), "a": NUM})
            self.meet(forth, back, forth)
            self.meet(forth, back, back)

    def test_many_parts(self):
        names = many_names(3000)
        low = {name: NUM for name in names[:2000]}
        high = {name: NUM for name in names[1000:]}
        self.meet(("record", low), ("record", high), ("record", {name: NUM for name in names[1000:2000]}))
        self.meet(("choice", low), ("choice", high), ("choice", {name: NUM for name in names}))
        odd = {**high, names[1500]: TRUTH}
        self.unlike(("choice", low), ("choice", odd))
        left = {name: NUM for name in names[1000:2000] if name != names[1500]}
        self.meet(("record", low), ("record", odd), ("record", left))

    def test_no_depth_is_too_great(self):
        depth = 20000
        for make in ("record", "choice"):
            found = meeting(tower(make, "a", depth, NUM), tower(make, "a", depth, NUM))
            self.assertEqual(floors(found), ([(make, "a")] * depth, NUM))
        choice = tower("choice", "a", depth, NUM)
        with self.assertRaises(Unlike):
            meeting(choice, tower("choice", "a", depth, TRUTH))
        found = meeting(rec(b=choice, c=NUM), rec(b=tower("choice", "a", depth, TRUTH), c=NUM))
        self.assertEqual(found, rec(c=NUM))
        found = meeting(choice, cho(b=TRUTH))
        self.assertEqual(sorted(found[1]), ["a", "b"])
        self.assertEqual(floors(found[1]["a"]), ([("choice", "a")] * (depth - 1), NUM))

    def test_meetings_within_meetings_do_not_double_the_work(self):
        # Would not end if each floor asked its own parts twice.
        record = tower("record", "a", 60, cho(b=NUM))
        other = tower("record", "a", 60, cho(b=TRUTH))
        self.meet(record, other, tower("record", "a", 59, rec()))
        self.unlike(tower("choice", "a", 60, NUM), tower("choice", "a", 60, TRUTH))


class SmallWorlds(unittest.TestCase):
    """The meeting is what the first row of [6] says, looked up among all kinds of a small world."""

    def test_both_fit_and_it_fits_every_other_one_that_both_fit(self):
        for kinds, _ in WORLDS:
            above = [sum(1 << at for at, other in enumerate(kinds) if fits(kind, other)) for kind in kinds]
            for one, kind in zip(above, kinds):
                for two, other in zip(above, kinds):
                    found = meeting_or_none(kind, other)
                    if found is None:
                        self.assertEqual(one & two, 0, (kind, other))
                    else:
                        self.assertIn(found, kinds)
                        self.assertEqual(above[kinds.index(found)], one & two, (kind, other))

    def test_the_values_of_both_are_of_the_meeting(self):
        for kinds, values in WORLDS:
            for kind in kinds[::3]:
                for other in kinds[::2]:
                    found = meeting_or_none(kind, other)
                    for value in values:
                        if found is not None and (is_of(value, kind) or is_of(value, other)):
                            self.assertTrue(is_of(value, found), (value, kind, other))


if __name__ == "__main__":
    unittest.main()
