"""[0.2] (d), (e), [4.1], [4.2], [4.3]: free cells taken off, nets put together, and what is around and against."""

import unittest
from itertools import combinations, permutations
from random import Random

from holeyard.changing import (
    against, around, bare, beside, free_cells, over, renamed, taken_off, tip, two_tips, without,
)
from holeyard.errors import NoNet, NoRoom, NotFree
from holeyard.holes import counted, holes
from holeyard.things import is_net
from samples import (
    DRAWN_NETS, LARGE_NETS, NAMED_NETS, SHELLS, SMALL_NETS, TYRE, VARIED_NETS, WRONG_BAND, all_cells, drawn_net,
    every_plain_cell, height_of, meant, plain_holes, plain_net, plain_tops, refusal_of,
)

ONE = (1, ((0,),))
NINE = [(9, (tuple(range(9)),)), (9, tuple((corner,) for corner in range(9)))]


def whole(many):
    return (many, (tuple(range(many)),))


def loose(many):
    return (many, tuple((corner,) for corner in range(many)))


def plain_free_cells(net):
    every = every_plain_cell(net)
    found = []
    for cell in every:
        others = [other for other in every if set(cell) < set(other)]
        if len(others) == 1:
            found.append((cell, others[0]))
    return tuple(sorted(found))


def plain_taken_off(net, cell, top):
    return plain_net([other for other in every_plain_cell(net) if other not in (cell, top)])


def nets_with_room(net):
    return [each for each in SMALL_NETS + SHELLS if net[0] + each[0] <= 8]


class NetCase(unittest.TestCase):
    def assert_told(self, expected, told, given):
        self.assertEqual(repr(expected), repr(told), given)
        self.assertIs(True, is_net(told), given)


class FreeCells(NetCase):
    def test_as_the_document_says(self):
        self.assertEqual((), free_cells(ONE))
        self.assertEqual((((0,), (0, 1)), ((1,), (0, 1))), free_cells((2, ((0, 1),))))
        self.assertEqual((((0, 1), (0, 1, 2)), ((0, 2), (0, 1, 2)), ((1, 2), (0, 1, 2))), free_cells(whole(3)))
        self.assertEqual((((0,), (0, 1)), ((2,), (1, 2))), free_cells((3, ((0, 1), (1, 2)))))

    def test_rising_by_cells_of_several_heights(self):
        net = (5, ((0, 1, 2), (1, 4), (2, 3)))
        expected = (((0, 1), (0, 1, 2)), ((0, 2), (0, 1, 2)), ((1, 2), (0, 1, 2)), ((3,), (2, 3)), ((4,), (1, 4)))
        self.assertEqual(expected, free_cells(net))

    def test_against_plain_counting(self):
        for net in VARIED_NETS:
            self.assertEqual(repr(plain_free_cells(net)), repr(free_cells(net)), net)

    def test_none(self):
        for net in NAMED_NETS + [loose(many) for many in range(1, 9)]:
            self.assertEqual((), free_cells(net))

    def test_nine_corners_are_not_refused(self):
        self.assertEqual(9, len(free_cells(NINE[0])))
        self.assertEqual((), free_cells(NINE[1]))


class TakenOff(NetCase):
    def test_as_the_document_says(self):
        self.assert_told((3, ((0, 1), (1, 2))), taken_off(whole(3), (0, 2)), None)
        self.assert_told(ONE, taken_off(whole(2), (0,)), None)
        self.assert_told(ONE, taken_off(whole(2), (1,)), None)
        self.assert_told((2, ((0, 1),)), taken_off((3, ((0, 1), (1, 2))), (0,)), None)
        self.assert_told((3, ((0, 1), (2,))), taken_off((4, ((0, 1), (2, 3))), (2,)), None)

    def test_every_free_cell(self):
        for net in VARIED_NETS:
            for cell, top in plain_free_cells(net):
                self.assert_told(plain_taken_off(net, cell, top), taken_off(net, cell), (net, cell))

    def test_holes_are_as_they_were_but_for_noughts_at_the_end(self):
        for net in SMALL_NETS + LARGE_NETS + DRAWN_NETS:
            for cell, top in free_cells(net):
                left = taken_off(net, cell)
                self.assertEqual(meant(holes(net)), meant(holes(left)), (net, cell))
                self.assertEqual(counted(net), counted(left), (net, cell))

    def test_every_cell_that_is_none(self):
        for net in SMALL_NETS:
            known = [cell for cell, top in plain_free_cells(net)]
            for cell in all_cells(5):
                expected = None if cell in known else NotFree
                self.assertIs(expected, refusal_of(taken_off, net, cell), (net, cell))

    def test_cells_of_large_nets_that_are_none(self):
        for net in NAMED_NETS:
            for cell in every_plain_cell(net) + [tuple(range(8)), (7, 8), (8,)]:
                self.assertIs(NotFree, refusal_of(taken_off, net, cell), (net, cell))

    def test_the_upper_cell_of_a_pair_is_none(self):
        self.assertIs(NotFree, refusal_of(taken_off, whole(2), (0, 1)))
        self.assertIs(NotFree, refusal_of(taken_off, ONE, (0,)))

    def test_nine_corners_are_not_refused(self):
        left = taken_off(NINE[0], (0, 1, 2, 3, 4, 5, 6, 7))
        self.assertEqual(plain_taken_off(NINE[0], (0, 1, 2, 3, 4, 5, 6, 7), tuple(range(9))), left)


class Bare(NetCase):
    def test_as_the_document_says(self):
        for many in range(1, 9):
            self.assert_told(ONE, bare(whole(many)), many)
        self.assert_told(ONE, bare((4, ((0, 1), (1, 2), (1, 3)))), None)
        self.assert_told(SHELLS[1], bare((5, ((0, 1), (0, 3), (1, 2), (1, 3), (3, 4)))), None)

    def test_the_first_free_cell_is_taken_each_time(self):
        for net in VARIED_NETS:
            expected = net
            while plain_free_cells(expected):
                expected = plain_taken_off(expected, *plain_free_cells(expected)[0])
            self.assert_told(expected, bare(net), net)

    def test_no_free_cells_are_left(self):
        for net in VARIED_NETS:
            left = bare(net)
            self.assertEqual((), free_cells(left), net)
            self.assertEqual(left, bare(left), net)

    def test_holes_are_as_they_were(self):
        for net in VARIED_NETS:
            self.assertEqual(meant(holes(net)), meant(holes(bare(net))), net)

    def test_what_has_none_stays(self):
        for net in NAMED_NETS + [loose(many) for many in range(1, 9)]:
            self.assert_told(net, bare(net), net)

    def test_nine_corners_are_not_refused(self):
        self.assertEqual(ONE, bare(NINE[0]))
        self.assertEqual(NINE[1], bare(NINE[1]))


class Tips(NetCase):
    def test_one_as_the_document_says(self):
        self.assert_told((2, ((0, 1),)), tip(ONE), None)
        self.assert_told((4, ((0, 1, 3), (2, 3))), tip((3, ((0, 1), (2,)))), None)
        self.assert_told(whole(8), tip(whole(7)), None)

    def test_two_as_the_document_says(self):
        self.assert_told((3, ((0, 1), (0, 2))), two_tips(ONE), None)
        self.assert_told((5, ((0, 1, 3), (0, 1, 4), (2, 3), (2, 4))), two_tips((3, ((0, 1), (2,)))), None)
        self.assert_told((8, ((0, 1, 2, 3, 4, 5, 6), (0, 1, 2, 3, 4, 5, 7))), two_tips(whole(6)), None)

    def test_the_tops_in_their_order(self):
        for net in [net for net in VARIED_NETS if net[0] < 8]:
            many, tops = net
            self.assert_told((many + 1, tuple(sorted(top + (many,) for top in tops))), tip(net), net)
        for net in [net for net in VARIED_NETS if net[0] < 7]:
            many, tops = net
            expected = sorted(top + (last,) for top in tops for last in (many, many + 1))
            self.assert_told((many + 2, tuple(expected)), two_tips(net), net)

    def test_a_tip_closes_all_holes_but_the_one_of_height_0(self):
        for net in [net for net in VARIED_NETS if net[0] < 8]:
            self.assertEqual((1,) + (0,) * (height_of(net) + 1), holes(tip(net)), net)

    def test_two_tips_lift_all_holes_by_one(self):
        for net in [net for net in VARIED_NETS if net[0] < 7]:
            told = holes(net)
            self.assertEqual((1, told[0] - 1) + told[1:], holes(two_tips(net)), net)

    def test_no_room(self):
        for net in [net for net in VARIED_NETS if net[0] == 8] + NINE:
            self.assertIs(NoRoom, refusal_of(tip, net), net)
            self.assertIs(NoRoom, refusal_of(two_tips, net), net)
        for net in [net for net in VARIED_NETS if net[0] == 7]:
            self.assertIs(None, refusal_of(tip, net), net)
            self.assertIs(NoRoom, refusal_of(two_tips, net), net)


class Together(NetCase):
    def pairs(self):
        draw = Random(12)
        tiny = [net for net in SMALL_NETS if net[0] <= 3]
        yield from [(one, other) for one in tiny for other in tiny]
        yield from [(one, other) for one in NAMED_NETS for other in nets_with_room(one)[:9]]
        for _ in range(60):
            many = draw.randint(1, 7)
            yield drawn_net(draw, many), drawn_net(draw, draw.randint(1, 8 - many))

    def test_as_the_document_says(self):
        one, other = (3, ((0, 1), (2,))), (2, ((0, 1),))
        self.assert_told((5, ((0, 1), (2,), (3, 4))), beside(one, other), None)
        self.assert_told((5, ((0, 1), (2, 3), (4,))), beside(other, one), None)
        self.assert_told((5, ((0, 1, 3, 4), (2, 3, 4))), over(one, other), None)
        self.assert_told((5, ((0, 1, 2, 3), (0, 1, 4))), over(other, one), None)
        self.assert_told((2, ((0,), (1,))), beside(ONE, ONE), None)
        self.assert_told((2, ((0, 1),)), over(ONE, ONE), None)

    def test_the_tops_in_their_order(self):
        for one, other in self.pairs():
            many = one[0] + other[0]
            far = [tuple(corner + one[0] for corner in top) for top in other[1]]
            joined = tuple(sorted(lower + upper for lower in one[1] for upper in far))
            self.assert_told((many, tuple(sorted(list(one[1]) + far))), beside(one, other), (one, other))
            self.assert_told((many, joined), over(one, other), (one, other))

    def test_beside_adds_the_holes(self):
        for one, other in self.pairs():
            first, second = holes(one), holes(other)
            size = max(len(first), len(second))
            wide = [told + (0,) * (size - len(told)) for told in (first, second)]
            self.assertEqual(tuple(map(sum, zip(*wide))), holes(beside(one, other)), (one, other))

    def test_over_has_one_for_each_two_lifted_by_one(self):
        for one, other in self.pairs():
            expected = [0] * 9
            for low, number in enumerate(meant(holes(one))):
                for high, times in enumerate(meant(holes(other))):
                    expected[low + high + 1] += number * times
            told = holes(over(one, other))
            expected[0] += 1
            self.assertEqual(expected[:len(told)], list(told), (one, other))
            self.assertEqual(0, sum(expected[len(told):]), (one, other))

    def test_just_8_corners_and_no_room_for_more(self):
        for one in range(1, 10):
            for other in range(1, 10):
                for first in (whole(one), loose(one)):
                    for second in (whole(other), loose(other)):
                        expected = NoRoom if one + other > 8 else None
                        self.assertIs(expected, refusal_of(beside, first, second), (first, second))
                        self.assertIs(expected, refusal_of(over, first, second), (first, second))


class AroundAndWithout(NetCase):
    def assert_made_of(self, some, asked, *given):
        if some:
            self.assert_told(plain_net(some), asked(*given), given)
        else:
            self.assertIs(NoNet, refusal_of(asked, *given), given)

    def test_as_the_document_says(self):
        net = (4, ((0, 1, 2), (2, 3)))
        self.assert_told((2, ((0, 1),)), around(net, 0), None)
        self.assert_told((3, ((0, 1), (2,))), around(net, 2), None)
        self.assert_told(ONE, around(net, 3), None)
        self.assert_told((3, ((0, 1), (1, 2))), without(net, 0), None)
        self.assert_told((3, ((0, 1), (2,))), without(net, 2), None)
        self.assert_told(whole(3), without(net, 3), None)

    def test_every_corner_of_every_net(self):
        for net in VARIED_NETS:
            every = every_plain_cell(net)
            for corner in range(net[0]):
                rest = [cell for cell in every if corner not in cell]
                link = [cell for cell in rest if tuple(sorted(cell + (corner,))) in every]
                self.assert_made_of(link, around, net, corner)
                self.assert_made_of(rest, without, net, corner)

    def test_none(self):
        self.assertIs(NoNet, refusal_of(around, ONE, 0))
        self.assertIs(NoNet, refusal_of(without, ONE, 0))
        for many in range(2, 9):
            for corner in range(many):
                self.assertIs(NoNet, refusal_of(around, loose(many), corner))
                self.assert_told(loose(many - 1), without(loose(many), corner), corner)

    def test_around_a_corner_of_a_shell_is_a_shell(self):
        for lower, net in zip(SHELLS, SHELLS[1:]):
            for corner in range(net[0]):
                self.assert_told(lower, around(net, corner), (net, corner))
                self.assert_told(whole(net[0] - 1), without(net, corner), (net, corner))
        for net in (WRONG_BAND, TYRE):
            for corner in range(net[0]):
                self.assertEqual((1, 1), holes(around(net, corner)))

    def test_around_and_without_the_tip(self):
        for net in [net for net in VARIED_NETS if net[0] < 8]:
            self.assert_told(net, around(tip(net), net[0]), net)
            self.assert_told(net, without(tip(net), net[0]), net)

    def test_nine_corners_are_not_refused(self):
        self.assertEqual(whole(8), around(NINE[0], 8))
        self.assertEqual(whole(8), without(NINE[0], 0))
        self.assertEqual(loose(8), without(NINE[1], 4))


class Against(NetCase):
    def plain_cells_against(self, net):
        every, corners = set(every_plain_cell(net)), set(range(net[0]))
        return [
            cell for cell in all_cells(net[0])
            if len(cell) < net[0] and tuple(sorted(corners - set(cell))) not in every
        ]

    def test_as_the_document_says(self):
        self.assert_told(ONE, against((3, ((0, 1), (0, 2)))), None)
        self.assert_told((3, ((0,), (1,), (2,))), against(loose(3)), None)
        self.assert_told((2, ((0,), (1,))), against((3, ((0, 1), (2,)))), None)
        self.assert_told((4, ((0, 2), (1, 3))), against((4, ((0, 1), (0, 3), (1, 2), (2, 3)))), None)
        self.assert_told((4, ((0, 1), (0, 3), (1, 2), (2, 3))), against((4, ((0, 2), (1, 3)))), None)

    def test_every_net(self):
        for net in VARIED_NETS:
            some = self.plain_cells_against(net)
            if some:
                self.assert_told(plain_net(some), against(net), net)
            else:
                self.assertIs(NoNet, refusal_of(against, net), net)

    def test_none(self):
        for many in range(1, 9):
            self.assertIs(NoNet, refusal_of(against, whole(many)), many)
        for net in SHELLS:
            self.assertIs(NoNet, refusal_of(against, net), net)

    def test_holes_from_the_other_end(self):
        for net in [net for net in VARIED_NETS if self.plain_cells_against(net)]:
            own = meant(holes(net))
            wide = (own + [0] * 8)[:net[0] - 2]
            told = meant(holes(against(net)))
            self.assertEqual(wide[::-1], (told + [0] * 8)[:net[0] - 2], net)
            self.assertLessEqual(max(len(own), len(told)), net[0] - 2, net)

    def test_against_what_is_against(self):
        found = 0
        for net in [net for net in VARIED_NETS if self.plain_cells_against(net)]:
            other = against(net)
            if other[0] == net[0]:
                found += 1
                self.assert_told(net, against(other), net)
        self.assertLess(20, found)

    def test_nine_corners_are_not_refused(self):
        self.assertIs(NoNet, refusal_of(against, NINE[0]))
        self.assertEqual((9, tuple(combinations(range(9), 7))), against(NINE[1]))


class Renamed(NetCase):
    def assert_renamed(self, net, names):
        expected = plain_tops([tuple(names[corner] for corner in top) for top in net[1]])
        told = renamed(net, names)
        self.assert_told((net[0], expected), told, (net, names))
        back = tuple(names.index(corner) for corner in range(net[0]))
        self.assert_told(net, renamed(told, back), (net, names))
        return told

    def test_as_the_document_says(self):
        self.assert_told((4, ((0, 3), (1, 2, 3))), renamed((4, ((0, 1, 2), (2, 3))), (1, 2, 3, 0)), None)
        self.assert_told((3, ((0,), (1, 2))), renamed((3, ((0, 1), (2,))), (1, 2, 0)), None)
        self.assert_told((3, ((0, 2), (1,))), renamed((3, ((0, 1), (2,))), (2, 0, 1)), None)

    def test_every_order_of_the_names_of_small_nets(self):
        for net in SMALL_NETS:
            for names in permutations(range(net[0])):
                told = self.assert_renamed(net, names)
                self.assertEqual(holes(net), holes(told))
                self.assertEqual(counted(net), counted(told))

    def test_drawn_orders_of_the_names(self):
        draw = Random(13)
        for net in LARGE_NETS + NAMED_NETS + DRAWN_NETS:
            for _ in range(4):
                names = tuple(draw.sample(range(net[0]), net[0]))
                told = self.assert_renamed(net, names)
                self.assertEqual(plain_holes(net), holes(told))
                self.assertEqual(counted(net), counted(told))
                self.assertEqual(meant(holes(bare(net))), meant(holes(bare(told))))
                self.assertEqual(len(free_cells(net)), len(free_cells(told)))

    def test_names_that_change_nothing(self):
        for net in VARIED_NETS:
            self.assert_told(net, renamed(net, tuple(range(net[0]))), net)

    def test_nine_corners_are_not_refused(self):
        names = (8, 0, 1, 2, 3, 4, 5, 6, 7)
        self.assertEqual(NINE[0], renamed(NINE[0], names))
        self.assertEqual(NINE[1], renamed(NINE[1], names))


if __name__ == "__main__":
    unittest.main()
