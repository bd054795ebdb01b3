"""Chains as whole numbers, one bit for each cell, and what sums of them reach: what filling and holes share.

A row is a pair of such numbers: a chain, and the cells one higher from whose rims it was summed.
A basis is a dict of rows, each under its pivot: a bit that the row has and that no other row of the basis has.
"""

from holeyard.chains import sides
from holeyard.things import cells_of_height


def marks(net, height):
    found = {}
    bit = 1
    for cell in cells_of_height(net, height):
        found[cell] = bit
        bit = bit * 2
    return found


def bits_of(chain, marked):
    return sum([marked[cell] for cell in chain])


def chain_of(bits, marked):
    return tuple([cell for cell in marked if (bits & marked[cell]) != 0])


def rim_rows(net, height):
    lower = marks(net, height - 1)
    own = marks(net, height)
    return [(bits_of(sides(cell), lower), own[cell]) for cell in own]


def sum_of_rows(one, other):
    return (one[0] ^ other[0], one[1] ^ other[1])


def reduced(row, basis):
    # No row of a basis has the pivot of another, so each pivot goes once and none comes back.
    for pivot in basis:
        if (row[0] & pivot) != 0:
            row = sum_of_rows(row, basis[pivot])
    return row


def lowest_bit(bits):
    return bits & -bits


def grown(basis, row):
    left = reduced(row, basis)
    if left[0] == 0:
        return basis
    pivot = lowest_bit(left[0])
    wider = {}
    for other in basis:
        wider[other] = reduced(basis[other], {pivot: left})
    wider[pivot] = left
    return wider


def basis_of(rows):
    basis = {}
    for row in rows:
        basis = grown(basis, row)
    return basis


def idle_parts(rows):
    # A row that the rows before it reach sums up to nothing with them: its parts then have no rim.
    basis = {}
    found = []
    for row in rows:
        left = reduced(row, basis)
        if left[0] == 0:
            found.append(left[1])
        basis = grown(basis, row)
    return found
