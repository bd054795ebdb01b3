"""Texts read to the nets of which they are the writing."""

from holeyard.errors import NoText
from holeyard.things import is_net

DIGITS = ("0", "1", "2", "3", "4", "5", "6", "7", "8")


def number_of(word):
    # No number of a net has two digits, and int by itself would take signs, noughts and blanks too.
    if word not in DIGITS:
        raise NoText("a number of a net is one digit, 8 at most")
    return int(word)


def numbers_of(text):
    return tuple([number_of(word) for word in text.split(" ")])


def read(text):
    if not isinstance(text, str):
        raise NoText("only a text is read")
    # Each split gives way to just one blank, so whatever else stands in the text is left in a word.
    parts = text.split(" cell ")
    head = parts[0].split(" ")
    if len(head) != 2 or head[0] != "net":
        raise NoText("the text begins with net and the number of corners")
    net = (number_of(head[1]), tuple([numbers_of(part) for part in parts[1:]]))
    if not is_net(net):
        raise NoText("the text is not the writing of a net")
    return net
