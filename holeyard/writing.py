"""Nets written as texts."""

from holeyard.errors import NoNet
from holeyard.things import is_net


def written(net):
    if not is_net(net):
        raise NoNet("only a net is written")
    words = ["net", str(net[0])]
    for top in net[1]:
        words.append("cell")
        words.extend([str(corner) for corner in top])
    return " ".join(words)
