"""[0.2] (a), [0.5], [2.1]: sums and rims of chains, and rounds."""

import unittest
from itertools import combinations
from random import Random

from holeyard.chains import is_round, rim, sum_of
from holeyard.things import is_chain
from samples import (
    LARGE_NETS, NAMED_NETS, SMALL_NETS, VARIED_NETS, drawn_sums, height_of, plain_cells, plain_chains, plain_rim,
    plain_round_basis, plain_sum,
)

# Few enough that all pairs of their chains can be tried.
TINY_NETS = [net for net in SMALL_NETS if net[0] <= 3]


def drawn_chains(net, height, number):
    return drawn_sums(Random(5), [(cell,) for cell in plain_cells(net, height)], number)


class Sums(unittest.TestCase):
    def test_as_the_document_says(self):
        self.assertEqual(((0, 1), (1, 2)), sum_of(((0, 1), (0, 2)), ((0, 2), (1, 2))))
        self.assertEqual(((0,), (1,), (2,), (3,)), sum_of(((1,), (3,)), ((0,), (2,))))
        self.assertEqual((), sum_of(((0,), (1,)), ((0,), (1,))))

    def test_with_the_empty_chain(self):
        self.assertEqual((), sum_of((), ()))
        for net in TINY_NETS + LARGE_NETS:
            for height in range(8):
                chain = plain_cells(net, height)
                self.assertEqual(repr(chain), repr(sum_of(chain, ())))
                self.assertEqual(repr(chain), repr(sum_of((), chain)))
                self.assertEqual((), sum_of(chain, chain))

    def test_all_pairs_of_chains_of_small_nets(self):
        for net in TINY_NETS:
            for height in range(3):
                for one in plain_chains(net, height):
                    for other in plain_chains(net, height):
                        told = sum_of(one, other)
                        self.assertEqual(repr(plain_sum(one, other)), repr(told))
                        self.assertIs(True, is_chain(told, net, height))

    def test_drawn_chains(self):
        for net in VARIED_NETS:
            for height in range(height_of(net) + 1):
                for one, other in combinations(drawn_chains(net, height, 4), 2):
                    told = sum_of(one, other)
                    self.assertEqual(repr(plain_sum(one, other)), repr(told))
                    self.assertEqual(told, sum_of(other, one))
                    self.assertEqual(one, sum_of(told, other))
                    self.assertIs(True, is_chain(told, net, height))


class Rims(unittest.TestCase):
    def test_as_the_document_says(self):
        self.assertEqual(((0, 1), (0, 2), (1, 2)), rim(((0, 1, 2),)))
        self.assertEqual(((0,), (1,)), rim(((0, 1),)))
        self.assertEqual(((0,), (2,)), rim(((0, 1), (1, 2))))
        self.assertEqual(((0, 1), (0, 2), (1, 3), (2, 3)), rim(((0, 1, 2), (1, 2, 3))))

    def test_of_the_empty_chain(self):
        self.assertEqual((), rim(()))

    def test_of_corners(self):
        for chain in plain_chains((8, ((0, 1, 2, 3, 4, 5, 6, 7),)), 0):
            self.assertEqual((), rim(chain))

    def test_of_one_cell(self):
        for height in range(1, 8):
            cell = tuple(range(height + 1))
            self.assertEqual(tuple(combinations(cell, height)), rim((cell,)))
        self.assertEqual(((2, 5), (2, 7), (5, 7)), rim(((2, 5, 7),)))

    def test_all_chains_of_small_nets(self):
        for net in SMALL_NETS:
            for height in range(4):
                for chain in plain_chains(net, height):
                    told = rim(chain)
                    self.assertEqual(repr(plain_rim(chain)), repr(told))
                    self.assertIs(True, is_chain(told, net, height - 1))

    def test_drawn_chains(self):
        for net in VARIED_NETS:
            for height in range(height_of(net) + 1):
                for chain in [plain_cells(net, height)] + drawn_chains(net, height, 6):
                    told = rim(chain)
                    self.assertEqual(repr(plain_rim(chain)), repr(told))
                    self.assertIs(True, is_chain(told, net, height - 1))

    def test_a_rim_has_no_rim(self):
        for net in VARIED_NETS:
            for height in range(height_of(net) + 1):
                for chain in [plain_cells(net, height)] + drawn_chains(net, height, 6):
                    self.assertEqual((), rim(rim(chain)))
                    self.assertIs(True, is_round(rim(chain)))

    def test_the_rim_of_a_sum_is_the_sum_of_the_rims(self):
        for net in VARIED_NETS:
            for height in range(height_of(net) + 1):
                for one, other in combinations(drawn_chains(net, height, 4), 2):
                    self.assertEqual(rim(sum_of(one, other)), sum_of(rim(one), rim(other)))


class Rounds(unittest.TestCase):
    def test_as_the_document_says(self):
        self.assertIs(True, is_round(((0, 1), (0, 2), (1, 2))))
        self.assertIs(False, is_round(((0, 1), (0, 2))))
        self.assertIs(False, is_round(((0, 1, 2),)))
        self.assertIs(True, is_round(((0, 1, 2), (0, 1, 3), (0, 2, 3), (1, 2, 3))))

    def test_the_empty_chain(self):
        self.assertIs(True, is_round(()))

    def test_corners(self):
        self.assertIs(True, is_round(((0,),)))
        self.assertIs(True, is_round(((0,), (3,), (7,))))

    def test_one_cell_by_itself(self):
        for height in range(1, 8):
            self.assertIs(False, is_round((tuple(range(height + 1)),)))

    def test_all_chains_of_small_nets(self):
        for net in SMALL_NETS:
            for height in range(4):
                for chain in plain_chains(net, height):
                    self.assertIs(plain_rim(chain) == (), is_round(chain), chain)

    def test_drawn_chains_and_drawn_rounds(self):
        for net in LARGE_NETS + NAMED_NETS:
            for height in range(height_of(net) + 1):
                for chain in drawn_chains(net, height, 6):
                    self.assertIs(plain_rim(chain) == (), is_round(chain), chain)
                for chain in drawn_sums(Random(6), plain_round_basis(net, height), 6):
                    self.assertIs(True, is_round(chain), chain)


if __name__ == "__main__":
    unittest.main()
