"""[0.2] (a), [2.2], [2.3]: what fills a round, and witnesses."""

import unittest
from random import Random

from holeyard.errors import NoRound
from holeyard.filling import filling, witness
from holeyard.things import is_chain
from samples import (
    LARGE_NETS, NAMED_NETS, SHELLS, SMALL_NETS, VARIED_NETS, drawn_sums, height_of, plain_cells, plain_chains,
    plain_rim, plain_round_basis, plain_rounds, plain_sum, refusal_of,
)


def common(one, other):
    return len(set(one) & set(other))


class OneOfTwo(unittest.TestCase):
    def assert_filled(self, net, chain, height):
        told = filling(net, chain, height)
        self.assertIs(True, is_chain(told, net, height + 1), (net, chain, told))
        self.assertEqual(chain, plain_rim(told), (net, chain, told))
        self.assertIs(None, witness(net, chain, height), (net, chain))

    def assert_kept_open(self, net, chain, height):
        told = witness(net, chain, height)
        self.assertIs(True, is_chain(told, net, height), (net, chain, told))
        self.assertEqual(1, common(told, chain) % 2, (net, chain, told))
        for cell in plain_cells(net, height + 1):
            self.assertEqual(0, common(told, plain_rim((cell,))) % 2, (net, chain, told))
        self.assertIs(None, filling(net, chain, height), (net, chain))

    def assert_one_of_two(self, net, chain, height):
        if filling(net, chain, height) is None:
            self.assert_kept_open(net, chain, height)
        else:
            self.assert_filled(net, chain, height)

    def test_as_the_document_says(self):
        around = ((0, 1), (0, 2), (1, 2))
        self.assertEqual(((0, 1, 2),), filling((3, ((0, 1, 2),)), around, 1))
        self.assertIs(None, witness((3, ((0, 1, 2),)), around, 1))
        self.assert_kept_open((3, around), around, 1)

    def test_every_round_of_small_nets(self):
        for net in SMALL_NETS:
            for height in range(height_of(net) + 2):
                filled = {plain_rim(chain) for chain in plain_chains(net, height + 1)}
                for chain in plain_rounds(net, height):
                    if chain in filled:
                        self.assert_filled(net, chain, height)
                    else:
                        self.assert_kept_open(net, chain, height)

    def test_drawn_rounds(self):
        for net in VARIED_NETS:
            for height in range(height_of(net) + 2):
                basis = plain_round_basis(net, height)
                for chain in basis[:5] + drawn_sums(Random(3), basis, 3):
                    self.assert_one_of_two(net, chain, height)

    def test_every_rim_is_filled(self):
        for net in VARIED_NETS:
            for height in range(height_of(net)):
                every = [(cell,) for cell in plain_cells(net, height + 1)]
                for chain in every[:5] + drawn_sums(Random(4), every, 3) + [plain_sum(*every)]:
                    self.assert_filled(net, plain_rim(chain), height)

    def test_the_empty_round_is_filled_at_each_height(self):
        for net in SMALL_NETS + LARGE_NETS + NAMED_NETS:
            for height in range(8):
                self.assert_filled(net, (), height)

    def test_at_the_height_of_the_net_the_empty_round_alone_is_filled(self):
        for net in SHELLS:
            height = height_of(net)
            self.assert_kept_open(net, net[1], height)
            self.assertEqual((), filling(net, (), height))

    def test_corners(self):
        net = (5, ((0, 1), (1, 2), (3, 4)))
        for chain in [((0,), (2,)), ((3,), (4,)), ((0,), (1,), (3,), (4,))]:
            self.assert_filled(net, chain, 0)
        for chain in [((0,),), ((0,), (3,)), ((0,), (1,), (2,)), ((0,), (1,), (2,), (3,)), plain_cells(net, 0)]:
            self.assert_kept_open(net, chain, 0)

    def test_the_same_round_in_a_net_with_more_cells(self):
        around = ((0, 1), (0, 3), (1, 2), (2, 3))
        for tops in [around, ((0, 1, 2), (0, 3), (2, 3)), ((0, 1), (0, 2, 3), (1, 2))]:
            self.assert_kept_open((4, tops), around, 1)
        for tops in [((0, 1, 2), (0, 2, 3)), ((0, 1, 3), (1, 2, 3)), ((0, 1, 2, 3),)]:
            self.assert_filled((4, tops), around, 1)


class NoRounds(unittest.TestCase):
    def assert_no_round(self, net, chain, height):
        self.assertIs(None, filling(net, chain, height), (net, chain))
        self.assertIs(NoRound, refusal_of(witness, net, chain, height), (net, chain))

    def test_every_chain_of_small_nets_that_is_none(self):
        for net in SMALL_NETS:
            for height in range(height_of(net) + 1):
                for chain in plain_chains(net, height):
                    if plain_rim(chain):
                        self.assert_no_round(net, chain, height)

    def test_drawn_chains_that_are_none(self):
        for net in LARGE_NETS + NAMED_NETS:
            for height in range(1, height_of(net) + 1):
                every = [(cell,) for cell in plain_cells(net, height)]
                for chain in every[:5] + drawn_sums(Random(8), every, 4):
                    if plain_rim(chain):
                        self.assert_no_round(net, chain, height)

    def test_a_round_that_the_net_has_not(self):
        around = ((0, 1), (0, 2), (1, 2))
        self.assert_no_round((3, ((0, 1), (0, 2))), around, 1)
        self.assert_no_round((3, ((0, 1, 2),)), ((3,),), 0)

    def test_a_round_of_another_height(self):
        around = ((0, 1), (0, 2), (1, 2))
        for height in (0, 2, 3):
            self.assert_no_round((3, ((0, 1, 2),)), around, height)


class SomewhatBeyond(unittest.TestCase):
    def test_nine_corners_are_not_refused(self):
        net = (9, (tuple(range(9)),))
        for height in range(9):
            cell = tuple(range(height + 2))
            if height < 8:
                chain = plain_rim((cell,))
                self.assertEqual(chain, plain_rim(filling(net, chain, height)))
                self.assertIs(None, witness(net, chain, height))
        shell = (9, tuple(sorted(plain_rim((tuple(range(9)),)))))
        self.assertIs(None, filling(shell, shell[1], 7))
        self.assertEqual(1, len(witness(shell, shell[1], 7)) % 2)

    def test_a_height_of_8_is_not_refused(self):
        for net in SMALL_NETS[:12] + LARGE_NETS:
            self.assertEqual((), filling(net, (), 8))
            self.assertIs(None, witness(net, (), 8))


if __name__ == "__main__":
    unittest.main()
