"""The interface: each name with its arguments, and the files that hold it."""

import inspect
import unittest

from holeyard import reading, things, writing

PROMISED = [
    (things.is_cell, ["thing", "many"]),
    (things.is_net, ["thing"]),
    (things.is_chain, ["thing", "net", "height"]),
    (things.cells, ["net", "height"]),
    (things.net_of, ["some", "many"]),
    (writing.written, ["net"]),
    (reading.read, ["text"]),
]


class Interface(unittest.TestCase):
    def test_names_and_arguments(self):
        for function, names in PROMISED:
            parameters = inspect.signature(function).parameters.values()
            self.assertEqual(names, [parameter.name for parameter in parameters], function)
            for parameter in parameters:
                self.assertIs(inspect.Parameter.empty, parameter.default, function)
                self.assertEqual(inspect.Parameter.POSITIONAL_OR_KEYWORD, parameter.kind, function)

    def test_called_by_the_arguments_names(self):
        net = (2, ((0, 1),))
        self.assertIs(True, things.is_cell(thing=(0,), many=1))
        self.assertIs(True, things.is_net(thing=net))
        self.assertIs(True, things.is_chain(thing=((0, 1),), net=net, height=1))
        self.assertEqual(((0,), (1,)), things.cells(net=net, height=0))
        self.assertEqual(net, things.net_of(some=((0, 1),), many=2))
        self.assertEqual("net 2 cell 0 1", writing.written(net=net))
        self.assertEqual(net, reading.read(text="net 2 cell 0 1"))


if __name__ == "__main__":
    unittest.main()
