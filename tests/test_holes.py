"""[0.2] (b), (c), [3.1], [3.2], [3.3]: holes, the rounds about them, and cells counted."""

import unittest
from itertools import combinations
from random import Random

from holeyard.errors import NoRound
from holeyard.filling import filling
from holeyard.holes import alike, counted, holes, rounds_about
from holeyard.things import is_chain
from samples import (
    LARGE_NETS, NAMED_NETS, SHELLS, SMALL_NETS, TYRE, VARIED_NETS, WRONG_BAND, drawn_sums, every_plain_cell, height_of,
    plain_cells, plain_chains, plain_holes, plain_rank, plain_rim, plain_round_basis, plain_rounds, plain_sum,
    refusal_of,
)


def sums(chains):
    """Each sum of none, one or more of the chains, with the number of chains in it."""
    return [(size, plain_sum(*some)) for size in range(len(chains) + 1) for some in combinations(chains, size)]


class Holes(unittest.TestCase):
    def assert_holes(self, expected, net):
        self.assertEqual(repr(expected), repr(holes(net)), net)

    def test_as_the_document_says(self):
        self.assert_holes((1,), (1, ((0,),)))
        self.assert_holes((1, 0), (2, ((0, 1),)))
        self.assert_holes((1, 1), (3, ((0, 1), (0, 2), (1, 2))))
        self.assert_holes((1, 0, 0), (3, ((0, 1, 2),)))

    def test_against_a_count_by_ranks(self):
        for net in VARIED_NETS:
            self.assert_holes(plain_holes(net), net)

    def test_against_all_rounds_of_small_nets(self):
        for net in SMALL_NETS:
            for height, told in enumerate(holes(net)):
                filled = {plain_rim(chain) for chain in plain_chains(net, height + 1)}
                self.assertEqual(len(plain_rounds(net, height)), len(filled) * 2 ** told, net)

    def test_as_many_numbers_as_the_height_and_one_more(self):
        for net in VARIED_NETS:
            self.assertEqual(height_of(net) + 1, len(holes(net)), net)

    def test_several_parts(self):
        for many in range(1, 9):
            self.assert_holes((many,), (many, tuple((corner,) for corner in range(many))))
        self.assert_holes((3, 0), (6, ((0, 1), (2, 3), (4, 5))))
        self.assert_holes((2, 1), (5, ((0, 1), (0, 2), (1, 2), (3, 4))))
        self.assert_holes((2, 2), (6, ((0, 1), (0, 2), (1, 2), (3, 4), (3, 5), (4, 5))))
        self.assert_holes((3, 0, 0), (8, ((0, 1, 2), (2, 3), (4,), (5, 6, 7))))

    def test_shells_of_each_height(self):
        self.assert_holes((2,), SHELLS[0])
        for net in SHELLS[1:]:
            self.assert_holes((1,) + (0,) * (net[0] - 3) + (1,), net)

    def test_whole_cells_of_each_height(self):
        for many in range(1, 9):
            self.assert_holes((1,) + (0,) * (many - 1), (many, (tuple(range(many)),)))

    def test_a_band_closed_the_wrong_way_and_a_tyre(self):
        self.assert_holes((1, 1, 1), WRONG_BAND)
        self.assert_holes((1, 2, 1), TYRE)

    def test_many_holes(self):
        self.assert_holes((1, 21), (8, tuple(combinations(range(8), 2))))
        self.assert_holes((1, 0, 0, 35), (8, tuple(combinations(range(8), 4))))

    def test_nine_corners_are_not_refused(self):
        self.assert_holes((1, 0, 0, 0, 0, 0, 0, 0, 0), (9, (tuple(range(9)),)))
        self.assert_holes((9,), (9, tuple((corner,) for corner in range(9))))


class RoundsAboutHoles(unittest.TestCase):
    def test_as_many_rounds_of_the_net_as_holes(self):
        for net in VARIED_NETS:
            for height, expected in enumerate(plain_holes(net)):
                told = rounds_about(net, height)
                self.assertEqual((tuple, expected), (type(told), len(told)), net)
                for chain in told:
                    self.assertIs(True, is_chain(chain, net, height), (net, chain))
                    self.assertEqual((), plain_rim(chain), (net, chain))

    def test_no_sum_of_them_is_filled(self):
        for net in SMALL_NETS + NAMED_NETS:
            for height in range(height_of(net) + 1):
                for size, chain in sums(rounds_about(net, height)):
                    self.assertIs(size == 0, filling(net, chain, height) is not None, (net, chain))

    def test_no_sum_of_them_is_filled_by_ranks(self):
        for net in VARIED_NETS:
            for height in range(height_of(net) + 1):
                told = rounds_about(net, height)
                rims = [plain_rim((cell,)) for cell in plain_cells(net, height + 1)]
                self.assertEqual(plain_rank(rims) + len(told), plain_rank(rims + list(told)), net)

    def test_each_round_has_just_one_sum_of_them_with_which_it_is_filled(self):
        for net in SMALL_NETS:
            for height in range(height_of(net) + 1):
                about = sums(rounds_about(net, height))
                filled = {plain_rim(chain) for chain in plain_chains(net, height + 1)}
                for chain in plain_rounds(net, height):
                    found = [other for size, other in about if plain_sum(chain, other) in filled]
                    self.assertEqual(1, len(found), (net, chain))

    def test_each_drawn_round_is_filled_with_some_of_them(self):
        for net in NAMED_NETS:
            for height in range(height_of(net) + 1):
                about = sums(rounds_about(net, height))
                for chain in drawn_sums(Random(9), plain_round_basis(net, height), 4):
                    told = [filling(net, plain_sum(chain, other), height) for size, other in about]
                    self.assertEqual(1, len([each for each in told if each is not None]), (net, chain))

    def test_none_above_the_height_of_the_net(self):
        for net in VARIED_NETS:
            for height in range(height_of(net) + 1, 9):
                self.assertEqual((), rounds_about(net, height))

    def test_one_round_about_one_hole(self):
        for net in SHELLS[1:]:
            self.assertEqual((net[1],), rounds_about(net, height_of(net)))
        self.assertEqual((), rounds_about((3, ((0, 1, 2),)), 1))


class Alike(unittest.TestCase):
    def test_each_round_of_small_nets_with_each(self):
        for net in SMALL_NETS:
            for height in range(height_of(net) + 1):
                filled = {plain_rim(chain) for chain in plain_chains(net, height + 1)}
                rounds = plain_rounds(net, height)[:12]
                for one in rounds:
                    for other in rounds:
                        expected = plain_sum(one, other) in filled
                        self.assertIs(expected, alike(net, one, other, height), (net, one, other))

    def test_with_itself_and_both_ways_round(self):
        for net in LARGE_NETS + NAMED_NETS:
            for height in range(height_of(net) + 2):
                rounds = drawn_sums(Random(7), plain_round_basis(net, height), 3)
                for one in rounds:
                    self.assertIs(True, alike(net, one, one, height))
                    for other in rounds:
                        self.assertIs(alike(net, other, one, height), alike(net, one, other, height))

    def test_rounds_about_are_unlike_one_another_and_the_empty_one(self):
        for net in NAMED_NETS:
            for height in range(height_of(net) + 1):
                told = rounds_about(net, height)
                for one in told:
                    self.assertIs(False, alike(net, one, (), height))
                    for other in told:
                        self.assertIs(one == other, alike(net, one, other, height))

    def test_the_empty_rounds_are_alike_at_each_height(self):
        for net in SMALL_NETS[:12] + LARGE_NETS:
            for height in range(9):
                self.assertIs(True, alike(net, (), (), height))

    def test_about_the_same_hole_and_about_others(self):
        # A band with a handle: its inner and its outer round go about one hole, the round through 6 about another.
        net = (7, ((0, 1, 4), (0, 2, 3), (0, 3, 4), (1, 2, 5), (1, 4, 5), (2, 3, 5), (4, 6), (5, 6)))
        inner, outer = ((0, 1), (0, 2), (1, 2)), ((3, 4), (3, 5), (4, 5))
        other = ((4, 5), (4, 6), (5, 6))
        self.assertIs(True, alike(net, inner, outer, 1))
        self.assertIs(False, alike(net, inner, other, 1))
        self.assertIs(False, alike(net, outer, other, 1))
        self.assertIs(False, alike(net, inner, plain_sum(outer, other), 1))
        self.assertIs(True, alike(net, plain_sum(inner, other), plain_sum(outer, other), 1))
        self.assertIs(False, alike(net, inner, (), 1))

    def test_parts(self):
        net = (4, ((0, 1), (2, 3)))
        self.assertIs(True, alike(net, ((0,),), ((1,),), 0))
        self.assertIs(False, alike(net, ((0,),), ((2,),), 0))
        self.assertIs(True, alike(net, ((0,), (2,)), ((1,), (3,)), 0))

    def test_refused_where_either_is_no_round(self):
        net = (3, ((0, 1), (0, 2), (1, 2)))
        around = net[1]
        for none in [((0, 1),), ((0, 1), (0, 2)), ((1, 2),)]:
            for one, other in [(none, around), (around, none), (none, none), (none, ()), ((), none)]:
                self.assertIs(NoRound, refusal_of(alike, net, one, other, 1), (one, other))

    def test_refused_where_the_sum_alone_is_a_round(self):
        net = (3, ((0, 1, 2),))
        self.assertIs(NoRound, refusal_of(alike, net, ((0, 1),), ((0, 2), (1, 2)), 1))

    def test_refused_where_the_round_is_not_of_the_net_or_the_height(self):
        around = ((0, 1), (0, 2), (1, 2))
        self.assertIs(NoRound, refusal_of(alike, (3, ((0, 1), (1, 2))), around, around, 1))
        for height in (0, 2):
            self.assertIs(NoRound, refusal_of(alike, (3, ((0, 1, 2),)), around, around, height))


class Counted(unittest.TestCase):
    def test_as_the_document_says(self):
        self.assertEqual(1, counted((1, ((0,),))))
        self.assertEqual(1, counted((3, ((0, 1, 2),))))
        self.assertEqual(0, counted((3, ((0, 1), (0, 2), (1, 2)))))
        self.assertEqual(-1, counted((4, ((0, 1), (0, 2), (0, 3), (1, 2), (1, 3)))))
        self.assertEqual(1, counted(WRONG_BAND))
        self.assertEqual(0, counted(TYRE))

    def test_by_cells_and_by_holes(self):
        for net in VARIED_NETS:
            by_cells = sum((-1) ** (len(cell) - 1) for cell in every_plain_cell(net))
            by_holes = sum((-1) ** height * number for height, number in enumerate(holes(net)))
            self.assertEqual(repr(by_cells), repr(counted(net)), net)
            self.assertEqual(by_cells, by_holes, net)

    def test_nine_corners_are_not_refused(self):
        self.assertEqual(1, counted((9, (tuple(range(9)),))))


if __name__ == "__main__":
    unittest.main()
