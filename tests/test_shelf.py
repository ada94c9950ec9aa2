"""Kinds under numbers, against the kinds themselves."""

import unittest

from kindsure.errors import Unlike
from kindsure.kinds import fits, meeting
from kindsure.shelf import Shelf
from small_kinds import DEEP_KINDS, NUM, TRUTH, WIDE_KINDS, cho, floors, rec, tower


class Numbers(unittest.TestCase):
    def test_a_kind_comes_back_from_its_number(self):
        shelf = Shelf()
        numbers = [shelf.place_whole(kind) for kind in DEEP_KINDS + WIDE_KINDS]
        for number, kind in zip(numbers, DEEP_KINDS + WIDE_KINDS):
            self.assertEqual(shelf.whole(number), kind)

    def test_equal_kinds_have_one_number_and_others_have_others(self):
        shelf = Shelf()
        numbers = [shelf.place_whole(kind) for kind in DEEP_KINDS]
        self.assertEqual(len(set(numbers)), len(DEEP_KINDS))
        self.assertEqual([shelf.place_whole(kind) for kind in reversed(DEEP_KINDS)], numbers[::-1])
        forth = ("record", {"a": rec(c=NUM, d=TRUTH), "b": NUM})
        back = ("record", {"b": NUM, "a": rec(d=TRUTH, c=NUM)})
        self.assertEqual(shelf.place_whole(forth), shelf.place_whole(back))
        self.assertNotEqual(shelf.place_whole(rec(a=NUM)), shelf.place_whole(cho(a=NUM)))

    def test_a_part_has_a_lower_number_than_its_whole(self):
        shelf = Shelf()
        for kind in DEEP_KINDS:
            number = shelf.place_whole(kind)
            if not isinstance(kind, str):
                for part in kind[1].values():
                    self.assertLess(shelf.place_whole(part), number)

    def test_no_depth_is_too_great(self):
        shelf = Shelf()
        for make in ("record", "choice"):
            one = shelf.place_whole(tower(make, "a", 20000, NUM))
            self.assertEqual(floors(shelf.whole(one)), ([(make, "a")] * 20000, NUM))
            self.assertEqual(shelf.meeting(one, one), one)


class Meetings(unittest.TestCase):
    def test_as_the_kinds_themselves(self):
        for kinds in (DEEP_KINDS[::3] + DEEP_KINDS[-40:], WIDE_KINDS[::2]):
            shelf = Shelf()
            numbers = [shelf.place_whole(kind) for kind in kinds]
            for one, kind in zip(numbers, kinds):
                for two, other in zip(numbers, kinds):
                    self.assertIs(shelf.fits(one, two), fits(kind, other), (kind, other))
                    self.check_meeting(shelf, shelf.meeting(one, two), kind, other)

    def check_meeting(self, shelf, found, kind, other):
        try:
            wanted = meeting(kind, other)
        except Unlike:
            self.assertIsNone(found, (kind, other))
        else:
            self.assertEqual(shelf.whole(found), wanted, (kind, other))

    def test_shapes_of_one_side_alone_whose_kinds_stand_behind_the_other_side(self):
        shelf = Shelf()
        one = shelf.place_whole(cho(a=NUM))
        two = shelf.place_whole(cho(b=rec(c=cho(d=rec(e=TRUTH)))))
        wanted = cho(a=NUM, b=rec(c=cho(d=rec(e=TRUTH))))
        self.assertEqual(shelf.whole(shelf.meeting(one, two)), wanted)
        self.assertEqual(shelf.whole(shelf.meeting(two, one)), wanted)

    def test_kinds_that_double_with_every_floor(self):
        shelf = Shelf()
        one = two = shelf.place("num")
        for _ in range(60):
            one = shelf.place(("record", {"a": one, "b": one}))
            two = shelf.place(("record", {"a": two, "b": two, "c": two}))
        self.assertEqual(shelf.meeting(one, two), one)
        self.assertTrue(shelf.fits(two, one))
        self.assertFalse(shelf.fits(one, two))
        kind = shelf.whole(one)
        for _ in range(60):
            kind = kind[1]["b"]
        self.assertEqual(kind, NUM)


if __name__ == "__main__":
    unittest.main()
