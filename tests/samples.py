"""What the tests share: nets found by trying all, things of every kind, and parts exchanged at every depth.

Nothing here draws from the program, so that what it answers is held against something else.
"""

import re
from collections import Counter
from itertools import combinations
from random import Random


def all_cells(many):
    corners = range(many)
    return sorted(cell for size in range(1, many + 1) for cell in combinations(corners, size))


def makes_a_net(tops, many):
    sets = [frozenset(top) for top in tops]
    if any(one < other for one in sets for other in sets):
        return False
    return frozenset().union(*sets) == frozenset(range(many))


def all_nets(many):
    every = all_cells(many)
    return [
        (many, tops)
        for size in range(1, len(every) + 1)
        for tops in combinations(every, size)
        if makes_a_net(tops, many)
    ]


def plain_writing(net):
    many, tops = net
    return "net " + str(many) + "".join(" cell " + " ".join(map(str, top)) for top in tops)


def plain_reading(text):
    """The net of which the text is the writing; None where there is none."""
    if re.fullmatch("net [1-8]( cell [0-7]( [0-7])*)+", text) is None:
        return None
    head, *rows = text.split(" cell ")
    many = int(head[-1])
    tops = tuple(tuple(map(int, row.split(" "))) for row in rows)
    for row in (tops,) + tops:
        if list(row) != sorted(set(row)):
            return None
    return (many, tops) if makes_a_net(tops, many) else None


def plain_cells(net, height):
    many, tops = net
    return tuple(
        cell for cell in combinations(range(many), height + 1) if any(set(cell) <= set(top) for top in tops)
    )


def plain_chains(net, height):
    own = plain_cells(net, height)
    return [chain for size in range(len(own) + 1) for chain in combinations(own, size)]


SMALL_NETS = [net for many in (1, 2, 3, 4) for net in all_nets(many)]

LARGE_NETS = [
    (8, ((0, 1, 2, 3, 4, 5, 6, 7),)),
    (8, ((0,), (1,), (2,), (3,), (4,), (5,), (6,), (7,))),
    (8, tuple(combinations(range(8), 7))),
    (8, tuple(combinations(range(8), 4))),
    (8, tuple(combinations(range(8), 2))),
    (8, ((0, 1, 2), (2, 3), (4,), (5, 6, 7))),
    (8, ((0, 1), (0, 7), (1, 2), (2, 3), (3, 4), (4, 5), (5, 6), (6, 7))),
    (7, ((0, 1, 2, 3, 4, 5, 6),)),
    (6, ((0, 1, 2), (0, 3, 4), (1, 3, 5), (2, 4, 5))),
    (5, ((0, 1, 2, 3), (0, 4), (1, 4))),
]


# A ball's shell of height k has all cells of k + 2 corners but the one of all.
SHELLS = [(many, tuple(combinations(range(many), many - 1))) for many in range(2, 9)]

# A band closed the wrong way: each edge is in just two of the ten cells, and so is each edge of the tyre.
WRONG_BAND = (6, ((0, 1, 2), (0, 1, 3), (0, 2, 4), (0, 3, 5), (0, 4, 5),
                  (1, 2, 5), (1, 3, 4), (1, 4, 5), (2, 3, 4), (2, 3, 5)))
TYRE = (7, tuple(sorted(
    tuple(sorted((start % 7, (start + step) % 7, (start + 3) % 7))) for start in range(7) for step in (1, 2)
)))

NAMED_NETS = SHELLS + [WRONG_BAND, TYRE]


def plain_tops(some):
    sets = [frozenset(cell) for cell in some]
    return tuple(sorted(tuple(sorted(one)) for one in set(sets) if not any(one < other for other in sets)))


def plain_net(some):
    """The net of some cells, one at least, of whatever corners: these are numbered anew in their order."""
    corners = sorted({corner for cell in some for corner in cell})
    return (len(corners), plain_tops([tuple(corners.index(corner) for corner in cell) for cell in some]))


def drawn_net(draw, many):
    some = [draw.sample(range(many), draw.randint(1, min(many, 5))) for _ in range(draw.randint(1, 14))]
    return (many, plain_tops(some + [[corner] for corner in range(many)]))


# The draw begins at a written number, so that each run asks the same.
DRAWN_NETS = [drawn_net(draw, many) for draw in [Random(2)] for many in (5, 6, 7, 8) for _ in range(12)]

VARIED_NETS = SMALL_NETS + LARGE_NETS + NAMED_NETS + DRAWN_NETS


def height_of(net):
    return max(len(top) for top in net[1]) - 1


def every_plain_cell(net):
    return sorted(cell for height in range(height_of(net) + 1) for cell in plain_cells(net, height))


def plain_sum(*chains):
    seen = Counter(cell for chain in chains for cell in chain)
    return tuple(sorted(cell for cell in seen if seen[cell] % 2 == 1))


def plain_rim(chain):
    seen = Counter(side for cell in chain for side in combinations(cell, len(cell) - 1))
    return tuple(sorted(side for side in seen if side and seen[side] % 2 == 1))


def plain_rounds(net, height):
    return [chain for chain in plain_chains(net, height) if not plain_rim(chain)]


def plain_rank(chains):
    rank, rows = 0, [set(chain) for chain in chains if chain]
    while rows:
        row = rows.pop()
        rank, pivot = rank + 1, min(row)
        rows = [other for other in (other ^ row if pivot in other else other for other in rows) if other]
    return rank


def plain_holes(net):
    top = height_of(net)
    ranks = [plain_rank([plain_rim((cell,)) for cell in plain_cells(net, height)]) for height in range(top + 2)]
    return tuple(len(plain_cells(net, height)) - ranks[height] - ranks[height + 1] for height in range(top + 1))


def plain_round_basis(net, height):
    """Rounds of which each round of this height is just one sum."""
    rounds, rows = [], [(set(plain_rim((cell,))), {cell}) for cell in plain_cells(net, height)]
    while rows:
        row, parts = rows.pop()
        if row:
            pivot = min(row)
            rows = [(one ^ row, own ^ parts) if pivot in one else (one, own) for one, own in rows]
        else:
            rounds.append(tuple(sorted(parts)))
    return rounds


def drawn_sums(draw, chains, number):
    return [plain_sum(*[chain for chain in chains if draw.random() < 0.5]) for _ in range(number)]


def meant(holes):
    """Holes without the one of height 0 that each net has, and without noughts at the end."""
    left = [holes[0] - 1] + list(holes[1:])
    while left and left[-1] == 0:
        left.pop()
    return left


def deep(inner, depth, wrap):
    for _ in range(depth):
        inner = wrap(inner)
    return inner


def as_tuple(thing):
    return (thing,)


def as_list(thing):
    return [thing]


def as_twins(thing):
    return (thing, thing)


# Small enough to be shown whole by repr.
STRANGE = [
    -1, 0, 1, 2, 3, 4, 7, 8, 9, 10 ** 40, -(10 ** 40), True, False, None,
    "", "0", "1", "01", "net 1 cell 0", " ", "\n",
    (), (0,), (1,), (0, 1), (1, 0), (0, 0), (-1,), (8,), (True,), (False,), (False, True), (0, True), (None,), ("0",),
    ((),), ((0,),), ((0,), (1,)), ((0, 1),), (((0,),),), ((0, 1), None), ((0,), 0), (1, ((0,),)),
    [], [0], [0, 1], [(0,)], [[0]], ([],), ([0],), ((0,), [1]), [1, [[0]]], (1, [(0,)]), (1, ([0],)), [1, ((0,),)],
    deep((0,), 30, as_tuple), deep([0], 30, as_list), deep(True, 30, as_tuple), deep("0", 33, as_list),
    deep((1, ((0,),)), 30, as_tuple),
]

# With all its parts, each of these is too large to be walked or shown.
ENDLESS = [deep((0,), 34, as_twins), deep(True, 34, as_twins), deep([], 34, as_twins), deep(None, 34, as_twins)]


def exchanged(thing, others):
    """The thing with one part, at whatever depth, exchanged for each of others, and itself exchanged."""
    yield from others
    if isinstance(thing, tuple):
        for place, part in enumerate(thing):
            for other in exchanged(part, others):
                yield thing[:place] + (other,) + thing[place + 1:]


def with_lists(thing):
    """The thing with a list in the place of one tuple, at whatever depth."""
    if isinstance(thing, tuple):
        yield list(thing)
        for place, part in enumerate(thing):
            for other in with_lists(part):
                yield thing[:place] + (other,) + thing[place + 1:]


def lengthened(thing, others):
    """The thing with one part left out, twice, or one of others put in, at whatever depth."""
    if isinstance(thing, tuple):
        for place, part in enumerate(thing):
            yield thing[:place] + thing[place + 1:]
            yield thing[:place] + (part,) + thing[place:]
            for other in lengthened(part, others):
                yield thing[:place] + (other,) + thing[place + 1:]
        for place in range(len(thing) + 1):
            for other in others:
                yield thing[:place] + (other,) + thing[place:]


def spoiled(thing):
    yield thing
    yield from exchanged(thing, STRANGE)
    yield from with_lists(thing)
    yield from lengthened(thing, STRANGE)


def refusal_of(asked, *given):
    """The class of the error that a call ends with; None if it answers."""
    try:
        asked(*given)
    except Exception as refusal:
        return type(refusal)
    return None
