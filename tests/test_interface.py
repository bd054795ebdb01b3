"""The interface: each name with its arguments, and the files that hold it."""

import inspect
import unittest

from holeyard import chains, changing, filling, holes, reading, things, writing

PROMISED = [
    (things.is_cell, ["thing", "many"]),
    (things.is_net, ["thing"]),
    (things.is_chain, ["thing", "net", "height"]),
    (things.cells, ["net", "height"]),
    (things.net_of, ["some", "many"]),
    (writing.written, ["net"]),
    (reading.read, ["text"]),
    (chains.sum_of, ["one", "other"]),
    (chains.rim, ["chain"]),
    (chains.is_round, ["chain"]),
    (filling.filling, ["net", "chain", "height"]),
    (filling.witness, ["net", "chain", "height"]),
    (holes.holes, ["net"]),
    (holes.rounds_about, ["net", "height"]),
    (holes.alike, ["net", "one", "other", "height"]),
    (holes.counted, ["net"]),
    (changing.free_cells, ["net"]),
    (changing.taken_off, ["net", "cell"]),
    (changing.bare, ["net"]),
    (changing.tip, ["net"]),
    (changing.two_tips, ["net"]),
    (changing.beside, ["one", "other"]),
    (changing.over, ["one", "other"]),
    (changing.around, ["net", "corner"]),
    (changing.without, ["net", "corner"]),
    (changing.against, ["net"]),
    (changing.renamed, ["net", "names"]),
]


class Interface(unittest.TestCase):
    def test_names_and_arguments(self):
        for function, names in PROMISED:
            parameters = inspect.signature(function).parameters.values()
            self.assertEqual(names, [parameter.name for parameter in parameters], function)
            for parameter in parameters:
                self.assertIs(inspect.Parameter.empty, parameter.default, function)
                self.assertEqual(inspect.Parameter.POSITIONAL_OR_KEYWORD, parameter.kind, function)

    def test_called_by_the_arguments_names(self):
        net = (2, ((0, 1),))
        self.assertIs(True, things.is_cell(thing=(0,), many=1))
        self.assertIs(True, things.is_net(thing=net))
        self.assertIs(True, things.is_chain(thing=((0, 1),), net=net, height=1))
        self.assertEqual(((0,), (1,)), things.cells(net=net, height=0))
        self.assertEqual(net, things.net_of(some=((0, 1),), many=2))
        self.assertEqual("net 2 cell 0 1", writing.written(net=net))
        self.assertEqual(net, reading.read(text="net 2 cell 0 1"))
        self.assertEqual(((0,), (1,)), chains.sum_of(one=((0,),), other=((1,),)))
        self.assertEqual(((0,), (1,)), chains.rim(chain=((0, 1),)))
        self.assertIs(True, chains.is_round(chain=((0,),)))
        self.assertEqual(((0, 1),), filling.filling(net=net, chain=((0,), (1,)), height=0))
        self.assertEqual(((0,), (1,)), filling.witness(net=net, chain=((0,),), height=0))
        self.assertEqual((1, 0), holes.holes(net=net))
        self.assertEqual((), holes.rounds_about(net=net, height=1))
        self.assertIs(True, holes.alike(net=net, one=((0,),), other=((1,),), height=0))
        self.assertEqual(1, holes.counted(net=net))

    def test_changes_called_by_the_arguments_names(self):
        net, one = (2, ((0, 1),)), (1, ((0,),))
        self.assertEqual((((0,), (0, 1)), ((1,), (0, 1))), changing.free_cells(net=net))
        self.assertEqual(one, changing.taken_off(net=net, cell=(0,)))
        self.assertEqual(one, changing.bare(net=net))
        self.assertEqual(net, changing.tip(net=one))
        self.assertEqual((3, ((0, 1), (0, 2))), changing.two_tips(net=one))
        self.assertEqual((3, ((0, 1), (2,))), changing.beside(one=net, other=one))
        self.assertEqual((3, ((0, 1, 2),)), changing.over(one=net, other=one))
        self.assertEqual(one, changing.around(net=net, corner=0))
        self.assertEqual(one, changing.without(net=net, corner=0))
        self.assertEqual((2, ((0,), (1,))), changing.against(net=(3, ((0, 1), (2,)))))
        self.assertEqual((3, ((0,), (1, 2))), changing.renamed(net=(3, ((0, 1), (2,))), names=(1, 2, 0)))


if __name__ == "__main__":
    unittest.main()
