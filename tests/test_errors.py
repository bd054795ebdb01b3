"""The interface: HoleError and the refusals below it."""

import unittest

from holeyard import errors
from holeyard.changing import against, around, beside, over, taken_off, tip, two_tips, without
from holeyard.errors import HoleError, NoNet, NoRoom, NoRound, NoText, NotFree
from holeyard.filling import witness
from holeyard.holes import alike
from holeyard.reading import read
from holeyard.things import cells, net_of
from holeyard.writing import written

KINDS = (NoNet, NoText, NoRound, NotFree, NoRoom)


def caught_by(kind, asked, *given):
    try:
        asked(*given)
    except kind:
        return True
    except Exception:
        return False
    return False


class Refusals(unittest.TestCase):
    def test_all_are_below_hole_error_and_that_is_a_value_error(self):
        self.assertEqual((ValueError,), HoleError.__bases__)
        for kind in KINDS:
            self.assertEqual((HoleError,), kind.__bases__, kind)

    def test_none_is_below_another(self):
        for one in KINDS:
            for other in KINDS:
                self.assertEqual(one is other, issubclass(one, other), (one, other))

    def test_there_are_no_others(self):
        names = sorted(name for name in vars(errors) if not name.startswith("__"))
        self.assertEqual(["HoleError", "NoNet", "NoRoom", "NoRound", "NoText", "NotFree"], names)

    def test_each_is_raised_with_words_or_without(self):
        for kind in KINDS + (HoleError,):
            self.assertEqual("", str(kind()))
            self.assertEqual("why", str(kind("why")))

    def test_each_refusal_is_caught_by_its_own_class_and_by_hole_error_alone(self):
        one, edge, full = (1, ((0,),)), (2, ((0, 1),)), (8, (tuple(range(8)),))
        asked = [
            (NoNet, net_of, ((), 1)), (NoNet, cells, (None, 0)), (NoNet, written, (None,)), (NoText, read, ("",)),
            (NoRound, witness, (edge, ((0, 1),), 1)),
            (NoRound, alike, (edge, ((0, 1),), (), 1)), (NoRound, alike, (edge, (), ((0, 1),), 1)),
            (NotFree, taken_off, (one, (0,))), (NotFree, taken_off, (edge, (0, 1))), (NotFree, taken_off, (edge, (5,))),
            (NoRoom, tip, (full,)), (NoRoom, two_tips, (full,)), (NoRoom, beside, (full, one)),
            (NoRoom, over, (one, full)),
            (NoNet, around, (one, 0)), (NoNet, without, (one, 0)), (NoNet, against, (full,)),
        ]
        for kind, function, given in asked:
            self.assertTrue(caught_by(kind, function, *given), function)
            self.assertTrue(caught_by(HoleError, function, *given), function)
            self.assertTrue(caught_by(ValueError, function, *given), function)
            for other in KINDS:
                self.assertEqual(other is kind, caught_by(other, function, *given), (function, other))


if __name__ == "__main__":
    unittest.main()
