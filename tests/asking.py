"""What the tests of the judge and of the reckoning ask."""

import unittest

from kindsure import errors
from kindsure.judging import judged
from kindsure.reckoning import reckoned

ABOVE = {
    errors.Unsure: [errors.NoName, errors.NotSo, errors.NoField, errors.Uncovered, errors.Unlike, errors.Unsteady],
    errors.Stuck: [errors.LostName, errors.LostField, errors.LostShape, errors.Misfit],
    errors.Stopped: [errors.ByNought, errors.TooGreat],
}


def outcome(function, *handed):
    """What the function tells, or the class of its refusal."""
    try:
        return function(*handed)
    except errors.KindError as refusal:
        return refusal.__class__


def is_same(one, other):
    """Whether two values are the same; for Python 1 == True, so == does not tell."""
    if type(one) is not type(other):
        return False
    if isinstance(one, dict):
        return one.keys() == other.keys() and all(is_same(one[name], other[name]) for name in one)
    if isinstance(one, tuple):
        return len(one) == len(other) and all(is_same(*pair) for pair in zip(one, other))
    return one == other


class Asking(unittest.TestCase):
    def comes_to(self, wanted, tree, names=None, deeds=None):
        found = reckoned([] if deeds is None else deeds, {} if names is None else names, tree)
        self.assertTrue(is_same(found, wanted), (found, wanted))

    def is_told(self, wanted, tree, names=None, deeds=None):
        self.assertEqual(judged([] if deeds is None else deeds, {} if names is None else names, tree), wanted)

    def stops(self, refusal, tree, names=None, deeds=None):
        self.refused(refusal, reckoned, [] if deeds is None else deeds, {} if names is None else names, tree)

    def unsure(self, refusal, tree, names=None, deeds=None):
        self.refused(refusal, judged, [] if deeds is None else deeds, {} if names is None else names, tree)

    def refused(self, refusal, function, *handed):
        """The refusal is of its own class, of those above it, and of no other one."""
        with self.assertRaises(ValueError) as caught:
            function(*handed)
        found = caught.exception
        self.assertIs(found.__class__, refusal, handed)
        self.assertIsInstance(found, errors.KindError)
        for branch, leaves in ABOVE.items():
            self.assertEqual(isinstance(found, branch), refusal in leaves)
            for leaf in leaves:
                self.assertEqual(isinstance(found, leaf), leaf is refusal)
