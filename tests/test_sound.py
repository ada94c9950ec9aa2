"""[13], and [7] to [12] against the words of the document once more, over many small programs."""

import unittest
from collections import Counter

from asking import is_same, outcome
from by_the_words import judged_by_the_words, reckoned_by_the_words
from kindsure import errors
from kindsure.judging import judged
from kindsure.kinds import is_of
from kindsure.reckoning import reckoned
from programs import Maker
from small_kinds import MOST, NUM, TRUTH, cho, rec
from trees import (EMPTY, ONE, X, Y, YES, add, again, call, case, choice, field, less, let, num, part, put, record,
                   take, when)


def is_refusal(found):
    return isinstance(found, type)


class Checking(unittest.TestCase):
    def check(self, deeds, kinds, values, tree):
        """What the judge and the reckoning tell of a program, once that has been found to be right."""
        program = (deeds, kinds, values, tree)
        kind = outcome(judged, deeds, kinds, tree)
        self.assertEqual(kind, outcome(judged_by_the_words, deeds, kinds, tree), program)
        value = outcome(reckoned, deeds, values, tree)
        self.assertTrue(is_same(value, outcome(reckoned_by_the_words, deeds, values, tree)), program)
        if is_refusal(kind):
            self.assertTrue(issubclass(kind, errors.Unsure), program)
        elif is_refusal(value):
            self.assertIn(value, (errors.ByNought, errors.TooGreat), program)
        else:
            self.assertIs(is_of(value, kind), True, program)
        return kind, value


class BySeed(Checking):
    def counted(self, seed, slips, count):
        """How often the judge told a kind or refused, and how often a run did."""
        maker = Maker(seed, slips)
        kinds, values = Counter(), Counter()
        for _ in range(count):
            deeds, names, worth, tree = maker.program()
            for of, value in worth.items():
                self.assertTrue(is_of(value, names[of]))
            kind, value = self.check(deeds, names, worth, tree)
            kinds[kind if is_refusal(kind) else "told"] += 1
            values[value if is_refusal(value) else "told"] += 1
        return kinds, values

    def test_programs_without_slips(self):
        kinds, values = self.counted(1, 0, 3000)
        self.assertGreater(kinds["told"], 2900)
        self.assertGreater(min(values[refusal] for refusal in (errors.ByNought, errors.TooGreat)), 20)

    def test_programs_with_a_slip_here_and_there(self):
        for seed in (2, 3):
            kinds, values = self.counted(seed, 20, 3000)
            self.assertGreater(kinds["told"], 1000)
            self.assertGreater(3000 - kinds["told"], 500)
            for refusal in (errors.NoName, errors.NotSo, errors.NoField, errors.Uncovered, errors.Unlike):
                self.assertGreater(kinds[refusal], 10, refusal)
            for refusal in (errors.LostName, errors.LostField, errors.LostShape, errors.Misfit):
                self.assertGreater(values[refusal], 5, refusal)

    def test_programs_with_many_slips(self):
        kinds, _ = self.counted(4, 150, 3000)
        self.assertGreater(kinds["told"], 300)


ATOMS = [ONE, num(0), num(MOST), YES, X, Y, EMPTY, choice("r", ONE)]
DEEDS = [("one", [("x", rec(f=NUM))], put(X, "g", field(X, "f"))),
         ("two", [("x", NUM), ("y", cho(r=NUM, s=TRUTH))], case(Y, ("r", "y", add(X, Y)), ("s", "y", X)))]
SCOPES = [({}, {}),
          ({"x": NUM, "y": TRUTH}, {"x": -1, "y": False}),
          ({"x": rec(f=NUM), "y": cho(r=NUM)}, {"x": {"f": 1, "g": True, "h": {}}, "y": ("r", 0)}),
          ({"x": cho(r=NUM, s=TRUTH), "y": rec()}, {"x": ("s", True), "y": {"f": ("r", {})}})]


def floors(one, other):
    """A tree of each word with these parts, of some words a few."""
    return [
        add(one, other), take(one, other), part(one, other), less(one, other), let("x", one, other),
        let("y", one, other), when(one, other, X), when(YES, one, other), when(less(Y, ONE), one, other),
        record(f=one, g=other), record(g=one), field(one, "f"), put(one, "f", other), put(other, "g", one),
        choice("r", one), choice("s", one), case(one, ("r", "x", other)),
        case(one, ("r", "x", other), ("s", "x", X)), case(one, ("s", "y", other), ("r", "y", Y), ("r", "x", one)),
        again(0, "x", one, other), again(2, "x", one, other), again(9, "y", one, other), call("one", one),
        call("two", one, other), call("two", other, one), call("gone", one)]


class InASteadyOrder(Checking):
    def count_told(self, trees):
        """Checks all trees in all scopes; of how many the judge told a kind."""
        told = 0
        for tree in trees:
            for kinds, values in SCOPES:
                kind, _ = self.check(DEEDS, kinds, values, tree)
                told += not is_refusal(kind)
        return told

    def test_each_word_over_each_two_atoms(self):
        trees = [tree for one in ATOMS for other in ATOMS for tree in floors(one, other)]
        self.assertGreater(self.count_told(trees), 1000)

    def test_each_word_over_some_trees_of_one_word(self):
        inner = [tree for one in ATOMS for other in ATOMS for tree in floors(one, other)]
        some = ATOMS + inner[::97]
        trees = [tree for one in some for other in some for tree in floors(one, other)]
        self.assertGreater(self.count_told(trees[::5]), 1000)


class Beside(Checking):
    """Records with more fields than their kind tells, where that could come amiss."""

    def sound(self, tree, kinds, values, deeds=()):
        kind, value = self.check(list(deeds), kinds, values, tree)
        self.assertFalse(is_refusal(kind) or is_refusal(value), (kind, value))

    def test_a_field_beside_of_another_kind_than_what_is_put_there(self):
        kinds, values = {"x": rec(f=NUM)}, {"x": {"f": 1, "g": True}}
        self.sound(put(X, "g", ONE), kinds, values)
        self.sound(add(field(put(X, "g", ONE), "g"), ONE), kinds, values)

    def test_fields_beside_through_ifs_agains_and_calls(self):
        kinds, values = {"x": rec(f=NUM), "y": rec(f=NUM, g=TRUTH)}, {"x": {"f": 1, "g": {}}, "y": {"f": 2, "g": True}}
        self.sound(when(YES, X, Y), kinds, values)
        self.sound(when(YES, Y, X), kinds, values)
        self.sound(again(2, "z", Y, X), kinds, values)
        self.sound(again(1, "x", Y, put(X, "h", X)), kinds, values)
        self.sound(call("one", Y), kinds, values, DEEDS)
        self.sound(choice("r", call("one", X)), kinds, values, DEEDS)
        self.sound(case(choice("r", Y), ("r", "z", X)), kinds, values)


if __name__ == "__main__":
    unittest.main()
