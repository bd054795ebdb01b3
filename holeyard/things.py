"""Cells, nets and chains: what is one, and which cells a net has."""

from holeyard.errors import NoNet

MOST_CORNERS = 8


def is_whole(thing):
    return isinstance(thing, int) and not isinstance(thing, bool)


def is_many(thing):
    return is_whole(thing) and 1 <= thing <= MOST_CORNERS


def is_rising(row):
    return all([one < other for one, other in zip(row, row[1:])])


def is_cell(thing, many):
    if not isinstance(thing, tuple) or not is_whole(many):
        return False
    # The parts are compared only once they are known to be whole numbers: others may have no order.
    if len(thing) == 0 or not all([is_whole(part) for part in thing]):
        return False
    return thing[0] >= 0 and thing[-1] < many and is_rising(thing)


def are_cells(thing, many):
    return isinstance(thing, tuple) and all([is_cell(part, many) for part in thing])


def lies_in(cell, other):
    return all([corner in other for corner in cell])


def lies_in_one(cell, others):
    return any([lies_in(cell, other) for other in others])


def uppermost(some):
    distinct = sorted(set(some))
    tops = []
    for cell in distinct:
        longer = [other for other in distinct if len(other) > len(cell)]
        if not lies_in_one(cell, longer):
            tops.append(cell)
    return tuple(tops)


def meet_all_corners(some, many):
    return all([lies_in_one((corner,), some) for corner in range(many)])


def is_net(thing):
    if not isinstance(thing, tuple) or len(thing) != 2:
        return False
    many = thing[0]
    tops = thing[1]
    # Only what is known to be cells is put in order and compared: True equals 1, and a deep thing may be
    # so large, with all its parts, that one comparison never ends.
    if not is_many(many) or not are_cells(tops, many):
        return False
    return tops == uppermost(tops) and meet_all_corners(tops, many)


def is_chain(thing, net, height):
    if not is_net(net) or not is_whole(height):
        return False
    if not are_cells(thing, net[0]) or not is_rising(thing):
        return False
    return all([len(cell) - 1 == height and lies_in_one(cell, net[1]) for cell in thing])


def cells_within(top):
    found = []
    for corner in top:
        found = found + [(corner,)] + [cell + (corner,) for cell in found]
    return found


def every_cell(net):
    found = []
    for top in net[1]:
        found.extend(cells_within(top))
    return sorted(set(found))


def cells_of_height(net, height):
    # Nothing is refused here: a net with somewhat more corners than told is still answered where no point refuses it.
    return tuple([cell for cell in every_cell(net) if len(cell) - 1 == height])


def cells(net, height):
    if not is_net(net):
        raise NoNet("only a net has cells")
    return cells_of_height(net, height)


def net_of(some, many):
    # The things handed in are not shown in the refusals: written out, a deep one may be without end.
    if not is_many(many):
        raise NoNet("a net has 1 to 8 corners")
    if not are_cells(some, many):
        raise NoNet("a net is made of a tuple of cells")
    if not meet_all_corners(some, many):
        raise NoNet("a corner is in none of the cells")
    return (many, uppermost(some))
