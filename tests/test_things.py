"""[0.3], [0.4], [0.5], [1.1]: cells, nets and chains, and the cells of a net."""

import copy
import unittest
from itertools import permutations, product

from holeyard.errors import NoNet
from holeyard.things import cells, is_cell, is_chain, is_net, net_of
from samples import (
    ENDLESS, LARGE_NETS, SMALL_NETS, STRANGE, all_cells, all_nets, as_tuple, deep, plain_cells, plain_chains,
    refusal_of, spoiled, with_lists,
)

HEIGHTS = range(8)
NO_NUMBERS = [True, False, None, "", "1", "8", (), (1,), [], [1], ((1,),), deep(1, 30, as_tuple)]


class Cells(unittest.TestCase):
    def assert_cell(self, expected, thing, many):
        self.assertIs(expected, is_cell(thing, many), (thing, many))

    def test_one_corner_and_all_corners(self):
        for many in range(1, 9):
            for corner in range(many):
                self.assert_cell(True, (corner,), many)
            self.assert_cell(True, tuple(range(many)), many)

    def test_the_empty_tuple_is_none(self):
        for many in range(1, 9):
            self.assert_cell(False, (), many)

    def test_corners_twice_not_rising_or_of_no_net(self):
        for thing in [(0, 0), (1, 0), (0, 2, 1), (0, 1, 1), (2, 2), (-1,), (-1, 0), (-2, -1), (0, 8), (8,), (7, 8),
                      (0, 10 ** 40), (-(10 ** 40), 0)]:
            self.assert_cell(False, thing, 8)

    def test_a_corner_is_below_many(self):
        for many in range(1, 9):
            self.assert_cell(False, (many,), many)
            self.assert_cell(False, tuple(range(many + 1)), many)
            self.assert_cell(False, (0, many), many)

    def test_no_corners_at_all(self):
        for many in (0, -1):
            for thing in [(), (0,), (-1,), (-2,)]:
                self.assert_cell(False, thing, many)

    def test_a_number_of_corners_somewhat_beyond_is_not_refused(self):
        self.assert_cell(True, (0, 8), 9)
        self.assert_cell(False, (9,), 9)

    def test_truths_are_no_corners(self):
        for thing in [(True,), (False,), (False, True), (0, True), (False, 1), (0, True, 2)]:
            self.assert_cell(False, thing, 8)

    def test_any_thing_against_all_cells(self):
        for many in (1, 2, 3, 8):
            known = {repr(cell) for cell in all_cells(many)}
            for cell in [(0,), (0, 1), (1, 2), (0, 1, 2), tuple(range(many))]:
                for thing in spoiled(cell):
                    self.assert_cell(repr(thing) in known, thing, many)

    def test_things_without_end(self):
        for part in ENDLESS:
            for thing in [part, (part,), (0, part), (part, 0), (0, part, 1), (part, part)]:
                self.assertIs(False, is_cell(thing, 8))

    def test_no_number_of_corners_has_no_cells(self):
        for many in NO_NUMBERS:
            self.assert_cell(False, (0,), many)


class Nets(unittest.TestCase):
    def assert_net(self, expected, thing):
        self.assertIs(expected, is_net(thing), thing)

    def test_how_many_nets_there_are(self):
        # Known from elsewhere: the ways to cover 1, 2, 3, 4 corners by sets, none within another.
        self.assertEqual([1, 2, 9, 114], [len(all_nets(many)) for many in (1, 2, 3, 4)])

    def test_all_small_nets_and_no_other_choice_of_cells(self):
        known = {repr(net) for net in SMALL_NETS}
        for many in (1, 2, 3):
            for size in range(4):
                for tops in product(all_cells(many), repeat=size):
                    self.assert_net(repr((many, tops)) in known, (many, tops))

    def test_small_and_large_nets(self):
        for net in SMALL_NETS + LARGE_NETS:
            self.assert_net(True, net)

    def test_one_to_eight_corners(self):
        for many in range(1, 9):
            self.assert_net(True, (many, (tuple(range(many)),)))
            self.assert_net(True, (many, tuple((corner,) for corner in range(many))))
        for many in (-1, 0, 9, 10):
            self.assert_net(False, (many, (tuple(range(many)),)))
            self.assert_net(False, (many, tuple((corner,) for corner in range(many))))
        self.assert_net(False, (0, ((0,),)))

    def test_tops_that_do_not_rise(self):
        for tops in [((1,), (0,)), ((1, 2), (0,)), ((0, 2), (0, 1)), ((0,), (2,), (1,))]:
            self.assert_net(False, (1 + max(max(top) for top in tops), tops))

    def test_tops_of_several_heights_rise_by_their_corners(self):
        self.assert_net(True, (4, ((0, 1, 2), (0, 3), (1, 3))))
        self.assert_net(False, (4, ((0, 3), (0, 1, 2), (1, 3))))
        self.assert_net(True, (3, ((0, 1), (2,))))
        self.assert_net(False, (3, ((2,), (0, 1))))

    def test_a_top_twice(self):
        for tops in [((0,), (0,)), ((0, 1), (0, 1)), ((0,), (1,), (1,))]:
            self.assert_net(False, (1 + max(max(top) for top in tops), tops))

    def test_a_top_with_all_corners_of_another(self):
        for tops in [((0,), (0, 1)), ((0, 1), (1,)), ((0, 1, 2), (1, 2)), ((0, 1, 2), (0, 2)), ((0, 1, 2), (2,))]:
            self.assert_net(False, (1 + max(max(top) for top in tops), tops))

    def test_a_corner_in_no_top(self):
        for net in [(2, ((0,),)), (2, ((1,),)), (3, ((0, 1),)), (3, ((0, 2),)), (8, ((0, 1, 2, 3, 4, 5, 6),))]:
            self.assert_net(False, net)

    def test_a_corner_that_is_not_below_many(self):
        for net in [(1, ((0, 1),)), (1, ((0,), (1,))), (2, ((0, 1), (2,)))]:
            self.assert_net(False, net)

    def test_no_tops(self):
        for many in range(9):
            self.assert_net(False, (many, ()))
        self.assert_net(False, (1, ((),)))
        self.assert_net(False, (1, ((), (0,))))

    def test_longer_and_shorter_than_a_pair(self):
        for thing in [(), (1,), (((0,),),), (1, ((0,),), ()), (1, ((0,),), None), (1, ((0,),), ((0,),)), (1, (0,)),
                      (1, 0), (((0,),), 1)]:
            self.assert_net(False, thing)

    def test_truths_are_no_numbers(self):
        for thing in [(True, ((0,),)), (1, ((False,),)), (2, ((0, True),)), (2, ((False, True),)),
                      (2, ((0,), (True,)))]:
            self.assert_net(False, thing)

    def test_a_list_in_the_place_of_a_tuple(self):
        for net in SMALL_NETS[:30] + LARGE_NETS:
            for thing in with_lists(net):
                self.assert_net(False, thing)

    def test_any_thing_against_all_nets(self):
        known = {repr(net) for net in SMALL_NETS}
        for net in SMALL_NETS[:30]:
            for thing in spoiled(net):
                self.assert_net(repr(thing) in known, thing)

    def test_things_without_end(self):
        for part in ENDLESS:
            for thing in [part, (1, part), (part, ((0,),)), (1, (part,)), (1, ((0,), part)), (1, ((part,),)),
                          (2, ((0, part),)), (1, (part, part))]:
                self.assertIs(False, is_net(thing))


class Chains(unittest.TestCase):
    def assert_chain(self, expected, thing, net, height):
        self.assertIs(expected, is_chain(thing, net, height), (thing, net, height))

    def test_the_empty_one_is_of_each_height(self):
        for net in SMALL_NETS + LARGE_NETS:
            for height in HEIGHTS:
                self.assert_chain(True, (), net, height)

    def test_all_chains_and_no_other_choice_of_cells(self):
        for net in [net for net in SMALL_NETS if net[0] <= 3]:
            choices = [choice for size in range(4) for choice in product(all_cells(3), repeat=size)]
            for height in range(4):
                known = set(plain_chains(net, height))
                for thing in choices:
                    self.assert_chain(thing in known, thing, net, height)

    def test_all_cells_of_a_height_are_a_chain(self):
        for net in LARGE_NETS:
            for height in HEIGHTS:
                own = plain_cells(net, height)
                self.assert_chain(True, own, net, height)
                self.assert_chain(True, own[::2], net, height)
                self.assert_chain(len(own) < 2, own[::-1], net, height)
                self.assert_chain(not own, own + own[-1:], net, height)

    def test_cells_of_another_height(self):
        net = (4, ((0, 1, 2), (2, 3)))
        for thing, own in [(((0,),), 0), (((0, 1),), 1), (((0, 1, 2),), 2), (((0,), (3,)), 0), (((0, 1), (2, 3)), 1)]:
            for height in HEIGHTS:
                self.assert_chain(height == own, thing, net, height)
        for thing in [((0,), (0, 1)), ((0, 1), (2,)), ((0, 1), (0, 1, 2)), ((0, 1, 2), (1,))]:
            for height in HEIGHTS:
                self.assert_chain(False, thing, net, height)

    def test_cells_not_rising_or_twice(self):
        net = (3, ((0, 1, 2),))
        for thing, height in [(((1,), (0,)), 0), (((0,), (0,)), 0), (((0, 2), (0, 1)), 1), (((1, 2), (0, 1)), 1),
                              (((0, 1), (0, 1)), 1), (((0, 1, 2), (0, 1, 2)), 2), (((0,), (2,), (1,)), 0)]:
            self.assert_chain(False, thing, net, height)

    def test_cells_that_the_net_has_not(self):
        net = (4, ((0, 1), (0, 2), (1, 2), (3,)))
        for thing, height in [(((0, 3),), 1), (((0, 1), (0, 3)), 1), (((0, 1, 2),), 2), (((4,),), 0), (((-1,),), 0),
                              (((0, 4),), 1), (((0,), (8,)), 0)]:
            self.assert_chain(False, thing, net, height)

    def test_cells_alone_are_no_chains(self):
        net = (3, ((0, 1, 2),))
        for thing in [(0,), (0, 1), (0, 1, 2), ((),)]:
            for height in HEIGHTS:
                self.assert_chain(False, thing, net, height)

    def test_any_thing_against_all_chains(self):
        for net in [(1, ((0,),)), (3, ((0, 1, 2),)), (3, ((0, 1), (2,))), (4, ((0, 1), (0, 2), (1, 2), (3,)))]:
            for height in range(3):
                known = {repr(chain) for chain in plain_chains(net, height)}
                for chain in [(), plain_cells(net, height), plain_cells(net, height)[:2]]:
                    for thing in spoiled(chain):
                        self.assert_chain(repr(thing) in known, thing, net, height)

    def test_things_without_end(self):
        net = (3, ((0, 1, 2),))
        for part in ENDLESS:
            for thing in [part, (part,), ((part,),), ((0,), part), ((0, part),), ((0,), (part,)), (part, part)]:
                for height in HEIGHTS:
                    self.assertIs(False, is_chain(thing, net, height))

    def test_truths_and_other_things_are_no_heights(self):
        net = (3, ((0, 1, 2),))
        for height in NO_NUMBERS:
            for thing in [(), ((0,),), ((0, 1),)]:
                self.assert_chain(False, thing, net, height)

    def test_what_is_no_net_has_no_chains(self):
        for thing in STRANGE:
            self.assertIs(repr(thing) == "(1, ((0,),))", is_chain((), thing, 0), thing)
        for thing in ENDLESS:
            self.assertIs(False, is_chain((), thing, 0))


class CellsOfANet(unittest.TestCase):
    def test_each_height_of_each_net(self):
        for net in SMALL_NETS + LARGE_NETS:
            for height in HEIGHTS:
                self.assertEqual(plain_cells(net, height), cells(net, height), (net, height))

    def test_they_are_told_as_a_tuple_of_tuples(self):
        for net in LARGE_NETS:
            for height in HEIGHTS:
                told = cells(net, height)
                self.assertEqual(tuple, type(told))
                for cell in told:
                    self.assertIs(True, is_cell(cell, net[0]))

    def test_a_cell_of_two_tops_is_told_once_and_in_its_place(self):
        net = (4, ((0, 2, 3), (1, 2, 3)))
        self.assertEqual(((0,), (1,), (2,), (3,)), cells(net, 0))
        self.assertEqual(((0, 2), (0, 3), (1, 2), (1, 3), (2, 3)), cells(net, 1))
        self.assertEqual(((0, 2, 3), (1, 2, 3)), cells(net, 2))

    def test_none_above_the_height_of_the_net_nor_below_0(self):
        for net in SMALL_NETS + LARGE_NETS:
            height = max(len(top) for top in net[1]) - 1
            self.assertNotEqual((), cells(net, height))
            for above in range(height + 1, 10):
                self.assertEqual((), cells(net, above))
            self.assertEqual((), cells(net, -1))

    def test_what_is_no_net_has_none(self):
        for thing in [None, True, 1, "net 1 cell 0", (), (1, ()), [1, ((0,),)], (1, [(0,)]), (2, ((0,),)),
                      (True, ((0,),)), (9, (tuple(range(9)),))] + ENDLESS:
            self.assertIs(NoNet, refusal_of(cells, thing, 0))


def plain_net_of(some, many):
    """The net among all nets that has just the cells that lie in some; None where there is none."""
    own = {repr(cell) for cell in all_cells(many)}
    if type(some) is not tuple or any(repr(cell) not in own for cell in some):
        return None
    closed = {cell for cell in all_cells(many) if any(set(cell) <= set(one) for one in some)}
    for net in [net for net in SMALL_NETS if net[0] == many]:
        if closed == {cell for height in range(many) for cell in plain_cells(net, height)}:
            return net
    return None


class NetOfCells(unittest.TestCase):
    def assert_net_of(self, expected, some, many):
        if expected is None:
            self.assertIs(NoNet, refusal_of(net_of, some, many), (some, many))
        else:
            told = net_of(some, many)
            self.assertEqual(repr(expected), repr(told), (some, many))

    def test_every_row_of_cells(self):
        for many in (1, 2, 3):
            for size in range(4):
                for some in product(all_cells(many), repeat=size):
                    self.assert_net_of(plain_net_of(some, many), some, many)

    def test_the_tops_of_a_net_make_it(self):
        for net in SMALL_NETS + LARGE_NETS:
            self.assert_net_of(net, net[1], net[0])

    def test_any_order_one_within_another_and_one_twice(self):
        for net in SMALL_NETS + LARGE_NETS:
            every = tuple(cell for height in HEIGHTS for cell in plain_cells(net, height))
            for some in [every, every[::-1], every + every, net[1] + every,
                         every[::-1] + net[1], net[1][::-1] + net[1]]:
                self.assert_net_of(net, some, net[0])

    def test_every_order_of_some(self):
        net = (5, ((0, 1), (1, 2, 3), (3, 4)))
        for some in permutations(((0, 1), (1, 2, 3), (3, 4), (2, 3), (4,))):
            self.assert_net_of(net, some, 5)

    def test_a_corner_in_none_of_them(self):
        for some, many in [((), 1), ((), 8), (((0,),), 2), (((1,),), 2), (((0, 2),), 3), (((0, 1, 2, 3, 4, 5, 6),), 8)]:
            self.assert_net_of(None, some, many)

    def test_one_is_no_cell(self):
        for other in [(), (0, 0), (1, 0), (-1,), (2,), (0, 2), (True,), (0, True), [0], [0, 1], 0, None, "01", ("0",)]:
            for some in [(other, (0, 1)), ((0, 1), other), ((0,), other, (1,))]:
                self.assert_net_of(None, some, 2)

    def test_many_is_no_number_from_1_to_8(self):
        for many in NO_NUMBERS + [0, -1, 9, 10, 10 ** 40, -(10 ** 40)]:
            for some in [(), ((0,),), ((0,), (1,)), (tuple(range(9)),)]:
                self.assert_net_of(None, some, many)

    def test_some_is_no_tuple(self):
        for some in [None, True, False, 0, 1, "", "0", [], [(0,)], [[0]], {(0,): True}]:
            self.assert_net_of(None, some, 1)

    def test_any_thing_as_some(self):
        for some, many in [(((0,),), 1), (((0, 1),), 2), (((1,), (0,)), 2), (((0, 1), (1, 2), (1,)), 3)]:
            for thing in spoiled(some):
                self.assert_net_of(plain_net_of(thing, many), thing, many)

    def test_any_thing_as_many(self):
        for many in STRANGE:
            expected = (1, ((0,),)) if repr(many) == "1" else None
            self.assert_net_of(expected, ((0,),), many)
        for many in ENDLESS:
            self.assertIs(NoNet, refusal_of(net_of, ((0,),), many))

    def test_things_without_end(self):
        for part in ENDLESS:
            for some in [part, (part,), ((0,), part), ((part,),), ((0, part),), (part, part)]:
                self.assertIs(NoNet, refusal_of(net_of, some, 2))


class NothingChanged(unittest.TestCase):
    def test_lists_are_left_as_they_are(self):
        for thing in [[], [0], [1, [[0]]], [(0,), (1,)], [1, 0], (1, [(0,)]), (2, ([1], [0])), ([1], (0,))]:
            before = copy.deepcopy(thing)
            is_cell(thing, 2)
            is_net(thing)
            is_chain(thing, (2, ((0, 1),)), 0)
            refusal_of(net_of, thing, 2)
            refusal_of(cells, thing, 0)
            self.assertEqual(before, thing)

    def test_asked_again_the_same_is_told(self):
        for net in LARGE_NETS:
            first = [(cells(net, height), net_of(net[1], net[0]), is_net(net)) for height in HEIGHTS]
            again = [(cells(net, height), net_of(net[1], net[0]), is_net(net)) for height in HEIGHTS]
            self.assertEqual(repr(first), repr(again))


if __name__ == "__main__":
    unittest.main()
