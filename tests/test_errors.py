"""The class tree of kindsure/errors.py."""

import unittest

from kindsure import errors

TREE = {
    "KindError": ValueError,
    "Unsure": errors.KindError,
    "Stuck": errors.KindError,
    "Stopped": errors.KindError,
    "NoName": errors.Unsure,
    "NotSo": errors.Unsure,
    "NoField": errors.Unsure,
    "Uncovered": errors.Unsure,
    "Unlike": errors.Unsure,
    "Unsteady": errors.Unsure,
    "LostName": errors.Stuck,
    "LostField": errors.Stuck,
    "LostShape": errors.Stuck,
    "Misfit": errors.Stuck,
    "ByNought": errors.Stopped,
    "TooGreat": errors.Stopped,
}
LEAVES = [name for name, base in TREE.items() if base not in (ValueError, errors.KindError)]


class TheTree(unittest.TestCase):
    def test_each_class_is_straight_below_the_class_that_is_told(self):
        for name, base in TREE.items():
            with self.subTest(name):
                self.assertEqual(getattr(errors, name).__bases__, (base,))

    def test_each_class_is_defined_in_this_file_under_its_name(self):
        for name in TREE:
            with self.subTest(name):
                found = getattr(errors, name)
                self.assertEqual((found.__module__, found.__name__), ("kindsure.errors", name))

    def test_there_are_twelve_and_none_stands_below_another_one(self):
        self.assertEqual(len(LEAVES), 12)
        for one in LEAVES:
            for other in LEAVES:
                if one != other:
                    self.assertFalse(issubclass(getattr(errors, one), getattr(errors, other)), (one, other))

    def test_there_is_no_other_class(self):
        found = [name for name, thing in vars(errors).items() if isinstance(thing, type)]
        self.assertEqual(sorted(found), sorted(TREE))

    def test_each_is_caught_as_what_stands_above_it_and_as_nothing_else(self):
        branches = [errors.Unsure, errors.Stuck, errors.Stopped]
        for name in LEAVES:
            for branch in branches:
                with self.subTest(name, branch=branch):
                    self.assertEqual(issubclass(getattr(errors, name), branch), branch is TREE[name])
            with self.assertRaises(ValueError):
                raise getattr(errors, name)("said")


if __name__ == "__main__":
    unittest.main()
