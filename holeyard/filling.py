"""What fills a round, and what tells that nothing does."""

from holeyard.chains import is_round
from holeyard.errors import NoRound
from holeyard.spans import basis_of, bits_of, chain_of, lowest_bit, marks, reduced, rim_rows
from holeyard.things import cells_of_height


def is_chain_of(net, chain, height):
    return chain == tuple([cell for cell in cells_of_height(net, height) if cell in chain])


def is_round_of(net, chain, height):
    return is_chain_of(net, chain, height) and is_round(chain)


def filling(net, chain, height):
    if not is_chain_of(net, chain, height):
        return None
    bits = bits_of(chain, marks(net, height))
    left = reduced((bits, 0), basis_of(rim_rows(net, height + 1)))
    if left[0] != 0:
        return None
    return chain_of(left[1], marks(net, height + 1))


def witness(net, chain, height):
    if not is_round_of(net, chain, height):
        raise NoRound("there are witnesses against rounds of the net alone")
    marked = marks(net, height)
    basis = basis_of(rim_rows(net, height + 1))
    left = reduced((bits_of(chain, marked), 0), basis)
    if left[0] == 0:
        return None
    # What is left has no pivot, so of the witness it meets this one bit alone. Each row of the basis that has the bit
    # is met a second time, at its own pivot; so all rims are met evenly.
    odd = lowest_bit(left[0])
    return chain_of(odd + sum([pivot for pivot in basis if (basis[pivot][0] & odd) != 0]), marked)
