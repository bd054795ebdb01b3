"""Holes: how many there are, and the rounds that go about them."""

from holeyard.chains import sum_of
from holeyard.errors import NoRound
from holeyard.filling import filling, is_round_of
from holeyard.spans import basis_of, chain_of, grown, idle_parts, marks, reduced, rim_rows
from holeyard.things import every_cell


def rounds_about(net, height):
    reached = basis_of(rim_rows(net, height + 1))
    marked = marks(net, height)
    found = []
    for bits in idle_parts(rim_rows(net, height)):
        row = (bits, 0)
        if reduced(row, reached)[0] != 0:
            found.append(chain_of(bits, marked))
            reached = grown(reached, row)
    return tuple(sorted(found))


def holes(net):
    highest = max([len(top) for top in net[1]])
    return tuple([len(rounds_about(net, height)) for height in range(highest)])


def alike(net, one, other, height):
    if not is_round_of(net, one, height) or not is_round_of(net, other, height):
        raise NoRound("only rounds of the net are alike or not")
    return filling(net, sum_of(one, other), height) is not None


def counted(net):
    return sum([1 if len(cell) % 2 == 1 else -1 for cell in every_cell(net)])
