"""[0.2], [0.3] over the whole program: what is told, asked again, and within seconds."""

import time
import unittest
from itertools import combinations
from random import Random

from holeyard.changing import (
    against, around, bare, beside, free_cells, over, renamed, taken_off, tip, two_tips, without,
)
from holeyard.chains import is_round, rim, sum_of
from holeyard.errors import HoleError
from holeyard.filling import filling, witness
from holeyard.holes import alike, counted, holes, rounds_about
from holeyard.reading import read
from holeyard.things import cells, is_cell, is_chain, is_net, net_of
from holeyard.writing import written
from samples import (
    DRAWN_NETS, LARGE_NETS, NAMED_NETS, SMALL_NETS, drawn_sums, height_of, plain_cells, plain_round_basis, plain_tops,
)

# As many tops as there can be, of one height and of several.
CROWDED_NETS = [(8, tuple(combinations(range(8), size))) for size in range(1, 9)] + [
    (8, plain_tops([draw.sample(range(8), draw.randint(3, 5)) for _ in range(90)])) for draw in map(Random, range(4))
]
ASKED_NETS = SMALL_NETS[::5] + LARGE_NETS + NAMED_NETS + DRAWN_NETS[::3]
SECONDS = 5


def plain_kinds(thing):
    """Whether a thing is made of tuples, texts, whole numbers and None alone, to its depth."""
    if type(thing) is tuple:
        return all(plain_kinds(part) for part in thing)
    return thing is None or type(thing) in (int, str)


def calls_with_chains(net):
    for height in range(height_of(net) + 2):
        basis = plain_round_basis(net, height)
        rounds = drawn_sums(Random(21), basis, 2) + basis[:1]
        yield rounds_about, (net, height)
        yield cells, (net, height)
        for chain in rounds + [plain_cells(net, height), plain_cells(net, height)[::3]]:
            yield rim, (chain,)
            yield is_round, (chain,)
            yield sum_of, (chain, rounds[0])
            yield is_chain, (chain, net, height)
            yield filling, (net, chain, height)
            yield witness, (net, chain, height)
            yield alike, (net, chain, rounds[0], height)


def calls_with_corners(net):
    for corner in range(net[0]):
        yield around, (net, corner)
        yield without, (net, corner)
        yield is_cell, ((corner,), net[0])
    for top in net[1][:4]:
        for cell in [top, top[1:], top[:-1]]:
            yield taken_off, (net, cell)


def calls(net):
    yield from calls_with_chains(net)
    yield from calls_with_corners(net)
    for asked in (is_net, written, holes, counted, free_cells, bare, tip, two_tips, against):
        yield asked, (net,)
    for other in [(1, ((0,),)), (2, ((0,), (1,))), net]:
        yield beside, (net, other)
        yield over, (other, net)
    yield renamed, (net, tuple(range(net[0]))[::-1])
    yield net_of, (net[1][::-1], net[0])
    yield read, (written(net),)


def answer(asked, given):
    try:
        return asked(*given)
    except HoleError as refusal:
        return type(refusal).__name__


class Told(unittest.TestCase):
    def test_tuples_texts_whole_numbers_none_and_truths_alone(self):
        truths = (is_round, is_chain, is_cell, is_net, alike)
        for net in ASKED_NETS:
            for asked, given in calls(net):
                told = answer(asked, given)
                if asked in truths:
                    self.assertIn(type(told), (bool, str), (asked, given))
                else:
                    self.assertTrue(plain_kinds(told), (asked, given))

    def test_nets_chains_and_cells(self):
        nets = (read, net_of, taken_off, bare, tip, two_tips, beside, over, around, without, against, renamed)
        for net in ASKED_NETS:
            for asked, given in calls(net):
                told = answer(asked, given)
                if asked in nets and type(told) is not str:
                    self.assertIs(True, is_net(told), (asked, given))
                if asked in (filling, witness) and type(told) is tuple:
                    height = given[2] + 1 if asked is filling else given[2]
                    self.assertIs(True, is_chain(told, net, height), (asked, given))
                if asked is free_cells:
                    self.assertEqual(sorted(set(told)), list(told))
                    for cell, top in told:
                        self.assertTrue(is_cell(cell, net[0]) and is_cell(top, net[0]))

    def test_nothing_handed_in_is_changed_and_asked_again_the_same_is_told(self):
        for net in ASKED_NETS:
            asked_once = list(calls(net))
            before = repr(asked_once)
            first = [repr(answer(asked, given)) for asked, given in asked_once]
            again = [repr(answer(asked, given)) for asked, given in asked_once[::-1]][::-1]
            self.assertEqual(first, again)
            self.assertEqual(before, repr(asked_once))

    def test_equal_things_that_are_not_the_same_one(self):
        for net in ASKED_NETS[::4]:
            for asked, given in calls(net):
                copied = [eval(repr(thing)) for thing in given]
                self.assertEqual(repr(answer(asked, given)), repr(answer(asked, copied)))


class Seconds(unittest.TestCase):
    def test_the_crowded_nets_are_nets(self):
        for net in CROWDED_NETS:
            self.assertIs(True, is_net(net), net)
        self.assertEqual(70, max(len(net[1]) for net in CROWDED_NETS))

    def test_every_function_answers_within_seconds(self):
        for net in CROWDED_NETS:
            for asked, given in calls(net):
                begun = time.process_time()
                answer(asked, given)
                self.assertLess(time.process_time() - begun, SECONDS, (asked, given))


if __name__ == "__main__":
    unittest.main()
