"""[3] and [5]: which kind fits another one."""

import unittest

from kindsure.kinds import fits, is_of
from small_kinds import NUM, TRUTH, WORLDS, cho, many_names, rec, tower

ONE_OF_EACH_MAKE = [NUM, TRUTH, rec(a=NUM), cho(a=NUM)]


class Asking(unittest.TestCase):
    def yes(self, kind, other):
        self.assertIs(fits(kind, other), True, (kind, other))

    def no(self, kind, other):
        self.assertIs(fits(kind, other), False, (kind, other))

    def one_way(self, kind, other):
        self.yes(kind, other)
        self.no(other, kind)

    def no_way(self, kind, other):
        self.no(kind, other)
        self.no(other, kind)


class Clauses(Asking):
    def test_num_and_truth_fit_themselves_alone(self):
        self.yes(NUM, NUM)
        self.yes(TRUTH, TRUTH)
        self.no_way(NUM, TRUTH)
        for flat in (NUM, TRUTH):
            for other in (rec(), rec(a=flat), cho(a=flat)):
                self.no_way(flat, other)

    def test_a_record_with_more_fields_fits_one_with_fewer(self):
        self.one_way(rec(a=NUM), rec())
        self.one_way(rec(a=NUM, b=TRUTH), rec(a=NUM))
        self.one_way(rec(a=NUM, b=TRUTH), rec(b=TRUTH))
        self.one_way(rec(a=NUM, b=TRUTH, c=NUM), rec(a=NUM, b=TRUTH))

    def test_records_with_the_same_fields(self):
        self.yes(rec(), rec())
        self.yes(rec(a=NUM, b=TRUTH), rec(a=NUM, b=TRUTH))
        self.no_way(rec(a=NUM, b=TRUTH), rec(a=NUM, b=NUM))
        self.no_way(rec(a=NUM), rec(a=TRUTH))

    def test_records_with_a_field_each_that_the_other_has_not(self):
        self.no_way(rec(a=NUM), rec(b=NUM))
        self.no_way(rec(a=NUM, b=NUM), rec(b=NUM, c=NUM))

    def test_a_field_beside_asks_nothing(self):
        self.one_way(rec(a=NUM, b=rec(c=NUM)), rec(a=NUM))
        self.no_way(rec(a=TRUTH, b=NUM), rec(a=NUM))

    def test_a_choice_with_fewer_shapes_fits_one_with_more(self):
        self.one_way(cho(a=NUM), cho(a=NUM, b=TRUTH))
        self.one_way(cho(b=TRUTH), cho(a=NUM, b=TRUTH))
        self.one_way(cho(a=NUM, b=TRUTH), cho(a=NUM, b=TRUTH, c=NUM))

    def test_choices_with_the_same_shapes(self):
        self.yes(cho(a=NUM), cho(a=NUM))
        self.yes(cho(a=NUM, b=TRUTH), cho(a=NUM, b=TRUTH))
        self.no_way(cho(a=NUM, b=TRUTH), cho(a=NUM, b=NUM))
        self.no_way(cho(a=NUM), cho(a=TRUTH))

    def test_choices_with_a_shape_each_that_the_other_has_not(self):
        self.no_way(cho(a=NUM), cho(b=NUM))
        self.no_way(cho(a=NUM, b=NUM), cho(b=NUM, c=NUM))

    def test_a_shape_that_fits_nowhere_is_not_made_good_by_others(self):
        self.no_way(cho(a=TRUTH), cho(a=NUM, b=TRUTH))

    def test_kinds_of_unlike_make(self):
        for at, kind in enumerate(ONE_OF_EACH_MAKE):
            for place, other in enumerate(ONE_OF_EACH_MAKE):
                self.assertIs(fits(kind, other), at == place, (kind, other))
                self.assertIs(fits(rec(f=kind), rec(f=other)), at == place, (kind, other))
                self.assertIs(fits(cho(s=kind), cho(s=other)), at == place, (kind, other))
        self.no_way(rec(), cho(a=NUM))

    def test_words_of_the_kinds_are_names_like_others(self):
        self.one_way(rec(num=TRUTH, record=cho(choice=NUM)), rec(num=TRUTH))
        self.one_way(cho(truth=NUM), cho(truth=NUM, record=rec()))
        self.no_way(rec(num=TRUTH), rec(num=NUM))


class Nested(Asking):
    def test_fields_and_shapes_within(self):
        self.one_way(rec(a=rec(b=NUM, c=NUM)), rec(a=rec(b=NUM)))
        self.one_way(rec(a=cho(b=NUM)), rec(a=cho(b=NUM, c=NUM)))
        self.one_way(cho(a=rec(b=NUM, c=NUM)), cho(a=rec(b=NUM)))
        self.one_way(cho(a=cho(b=NUM)), cho(a=cho(b=NUM, c=NUM)))
        self.one_way(rec(a=cho(b=rec(c=NUM, d=TRUTH))), rec(a=cho(b=rec(c=NUM), e=NUM)))
        self.one_way(cho(a=rec(b=cho(c=NUM), d=NUM)), cho(a=rec(b=cho(c=NUM, e=TRUTH)), f=NUM))

    def test_one_part_within_that_does_not_fit_is_enough(self):
        self.no_way(rec(a=rec(b=NUM, c=NUM), d=cho(e=NUM, f=NUM)), rec(a=rec(b=NUM), d=cho(e=NUM)))
        self.no_way(cho(a=rec(b=cho(c=NUM))), cho(a=rec(b=cho(c=TRUTH))))
        self.no_way(rec(a=NUM, b=rec(c=rec(d=NUM))), rec(b=rec(c=rec(d=TRUTH))))

    def test_the_order_of_the_parts_does_not_count(self):
        for make in ("record", "choice"):
            forth = (make, {"a": NUM, "b": rec(c=NUM, d=TRUTH), "e": TRUTH})
            back = (make, {"e": TRUTH, "b": rec(d=TRUTH, c=NUM), "a": NUM})
            self.assertEqual(forth, back)
            self.yes(forth, back)
            self.yes(back, forth)

    def test_many_parts(self):
        names = many_names(3000)
        parts = {name: NUM for name in names}
        fewer = {name: NUM for name in names[1:]}
        self.one_way(("record", parts), ("record", fewer))
        self.one_way(("choice", fewer), ("choice", parts))
        self.no_way(("record", {**parts, names[1500]: TRUTH}), ("record", fewer))

    def test_no_depth_is_too_great(self):
        for make in ("record", "choice"):
            kind = tower(make, "a", 20000, NUM)
            self.assertIs(fits(kind, tower(make, "a", 20000, NUM)), True)
            self.assertIs(fits(kind, tower(make, "a", 20000, TRUTH)), False)
            self.assertIs(fits(kind, tower(make, "a", 19999, NUM)), False)


class SmallWorlds(unittest.TestCase):
    def test_a_kind_fits_where_all_its_values_are_of_the_other(self):
        for kinds, values in WORLDS:
            held = [sum(1 << at for at, value in enumerate(values) if is_of(value, kind)) for kind in kinds]
            for one, kind in zip(held, kinds):
                for two, other in zip(held, kinds):
                    self.assertIs(fits(kind, other), one & two == one, (kind, other))

    def test_only_equal_kinds_fit_both_ways(self):
        for kinds, _ in WORLDS:
            for kind in kinds:
                for other in kinds:
                    self.assertEqual(fits(kind, other) and fits(other, kind), kind == other, (kind, other))


if __name__ == "__main__":
    unittest.main()
