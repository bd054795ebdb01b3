"""Chains: their sums and their rims."""


def sum_of(one, other):
    return tuple(sorted(set(one) ^ set(other)))


def sides(cell):
    # A corner has no sides: with its one corner left out nothing would be left, and that is no cell.
    return [cell[:place] + cell[place + 1:] for place in range(len(cell)) if len(cell) > 1]


def rim(chain):
    found = ()
    for cell in chain:
        found = sum_of(found, sides(cell))
    return found


def is_round(chain):
    return rim(chain) == ()
