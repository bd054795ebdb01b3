"""Nets made of nets: free cells taken off, tips put on, nets put together, and what lies around or against."""

from holeyard.chains import sides
from holeyard.errors import NoNet, NoRoom, NotFree
from holeyard.things import cells_within, every_cell, is_many, lies_in_one, uppermost

ONE_CORNER = (1, ((0,),))
TWO_CORNERS = (2, ((0,), (1,)))


def numbered_anew(some):
    if len(some) == 0:
        raise NoNet("no cell is left")
    met = []
    for cell in some:
        met.extend(cell)
    left = sorted(set(met))
    return (len(left), uppermost([tuple([left.index(corner) for corner in cell]) for cell in some]))


def free_cells(net):
    above = {}
    for cell in every_cell(net):
        for side in sides(cell):
            above[side] = above.get(side, ()) + (cell,)
    # What lies in a cell two higher lies in two that are one higher, so it is enough to look one higher.
    return tuple(sorted([(cell, above[cell][0]) for cell in above if len(above[cell]) == 1]))


def without_pair(net, pair):
    # The upper cell lies in no other, so it is a top; and what lies within the lower one lies in another side too.
    rest = [top for top in net[1] if top != pair[1]]
    return numbered_anew(rest + [side for side in sides(pair[1]) if side != pair[0]])


def taken_off(net, cell):
    for pair in free_cells(net):
        if pair[0] == cell:
            return without_pair(net, pair)
    raise NotFree("the cell does not lie in just one other cell of the net")


def bare(net):
    pairs = free_cells(net)
    while len(pairs) > 0:
        net = without_pair(net, pairs[0])
        pairs = free_cells(net)
    return net


def moved(net, far):
    return tuple([tuple([corner + far for corner in top]) for top in net[1]])


def corners_of_both(one, other):
    many = one[0] + other[0]
    if not is_many(many):
        raise NoRoom("a net has 8 corners at most")
    return many


def beside(one, other):
    many = corners_of_both(one, other)
    # All corners of the other net come behind those of the one, so the tops rise as they stand.
    return (many, one[1] + moved(other, one[0]))


def over(one, other):
    many = corners_of_both(one, other)
    tops = []
    for upper in moved(other, one[0]):
        tops.extend([lower + upper for lower in one[1]])
    return (many, uppermost(tops))


def tip(net):
    return over(net, ONE_CORNER)


def two_tips(net):
    return over(net, TWO_CORNERS)


def left_out(cell, corner):
    return tuple([other for other in cell if other != corner])


def around(net, corner):
    return numbered_anew([left_out(top, corner) for top in net[1] if corner in top and len(top) > 1])


def without(net, corner):
    return numbered_anew([left_out(top, corner) for top in net[1] if top != (corner,)])


def against(net):
    corners = tuple(range(net[0]))
    found = []
    for cell in cells_within(corners):
        rest = tuple([corner for corner in corners if corner not in cell])
        if len(rest) > 0 and not lies_in_one(rest, net[1]):
            found.append(cell)
    return numbered_anew(found)


def renamed(net, names):
    return (net[0], uppermost([tuple(sorted([names[corner] for corner in top])) for top in net[1]]))
