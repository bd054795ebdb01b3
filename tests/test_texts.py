"""[1.2]: nets written, and texts read."""

import unittest
from itertools import permutations

from holeyard.errors import NoNet, NoText
from holeyard.reading import read
from holeyard.writing import written
from samples import ENDLESS, LARGE_NETS, SMALL_NETS, STRANGE, plain_reading, plain_writing, refusal_of, spoiled

SIGNS = [" ", "  ", "\t", "\n", "\r", "\r\n", "0", "1", "2", "9", "-", "+", "_", ".", ",", "c", "N", "~", "cell", "net"]
WORDS = ["net", "cell", "0", "1", "2", "3", "4", "8", "9", "00", "01", "+1", "-1", "-0", "1_0", "1.0", "", "Net",
         "CELL", "cells", "nets", "\t", "\n", "1\n", "\n1", "cell\t0", "True", "None", "x", "10", "1" * 5000,
         "0" * 5000]
SPOILED_TEXTS = [plain_writing(net) for net in SMALL_NETS + LARGE_NETS[-2:] if net[0] != 4]


class Writing(unittest.TestCase):
    def test_as_the_document_says(self):
        self.assertEqual("net 1 cell 0", written((1, ((0,),))))
        self.assertEqual("net 3 cell 0 1 cell 2", written((3, ((0, 1), (2,)))))
        self.assertEqual("net 8 cell 0 1 2 3 4 5 6 7", written((8, (tuple(range(8)),))))

    def test_all_nets(self):
        for net in SMALL_NETS + LARGE_NETS:
            self.assertEqual(plain_writing(net), written(net))

    def test_what_is_no_net_is_not_written(self):
        for thing in [None, True, 0, 1, "", "net 1 cell 0", (), (1,), (1, ()), (0, ()), (9, (tuple(range(9)),)),
                      (2, ((0,),)), (2, ((1,), (0,))), (2, ((0, 1), (1,))), (True, ((0,),)), (1, ((False,),)),
                      [1, ((0,),)], (1, [(0,)]), (1, ([0],)), (1, ((0,),), 0)]:
            self.assertIs(NoNet, refusal_of(written, thing), thing)

    def test_any_thing(self):
        known = {repr(net): plain_writing(net) for net in SMALL_NETS}
        for net in SMALL_NETS[:12]:
            for thing in spoiled(net):
                if repr(thing) in known:
                    self.assertEqual(known[repr(thing)], written(thing))
                else:
                    self.assertIs(NoNet, refusal_of(written, thing), thing)

    def test_things_without_end(self):
        for part in ENDLESS:
            for thing in [part, (1, part), (part, ((0,),)), (1, (part,)), (1, ((part,),))]:
                self.assertIs(NoNet, refusal_of(written, thing))

    def test_a_list_is_left_as_it_is(self):
        thing = [1, [[0]]]
        refusal_of(written, thing)
        self.assertEqual([1, [[0]]], thing)


class Reading(unittest.TestCase):
    def assert_read(self, text):
        """Read to its net, if it is the writing of one; else refused."""
        net = plain_reading(text)
        if net is None:
            self.assertIs(NoText, refusal_of(read, text), text[:200])
        else:
            self.assertEqual(repr(net), repr(read(text)), text)

    def assert_refused(self, text):
        self.assertIs(NoText, refusal_of(read, text), text[:200])

    def test_what_is_written_is_read(self):
        for net in SMALL_NETS + LARGE_NETS:
            self.assertEqual(repr(net), repr(read(plain_writing(net))))
            self.assertEqual(repr(net), repr(read(written(net))))

    def test_empty_or_nearly_so(self):
        for text in ["", " ", "\n", "\t", "net", "net ", "net 1", "net 1 ", "net 1 cell", "net 1 cell ", "cell 0", "0",
                     "1 cell 0", " cell ", " cell 0", "net cell 0", "net  cell 0", "cell", "net 0", "net 0 cell"]:
            self.assert_refused(text)

    def test_blanks_tabs_and_rows_ends(self):
        words = "net 2 cell 0 cell 1".split(" ")
        self.assertEqual((2, ((0,), (1,))), read(" ".join(words)))
        for end in [" ", "\t", "\n", "\r"]:
            self.assert_refused(end + " ".join(words))
            self.assert_refused(" ".join(words) + end)
        for place in range(len(words) + 1):
            before, behind = " ".join(words[:place]), " ".join(words[place:])
            for between in ["  ", "\t", "\n", "\r\n", " \n", "\n ", " \t ", "   "]:
                self.assert_refused(before + between + behind)

    def test_noughts_and_signs_before_a_number(self):
        for text in ["net 01 cell 0", "net 1 cell 00", "net +1 cell 0", "net 1 cell +0", "net 1 cell -0",
                     "net -1 cell 0", "net 2 cell 0 01", "net 2 cell 0 +1", "net 0_1 cell 0", "net 1.0 cell 0",
                     "net 1 cell 0x0"]:
            self.assert_refused(text)

    def test_tops_that_make_no_net(self):
        for text in ["net 2 cell 1 cell 0", "net 2 cell 0 1 cell 1", "net 2 cell 0 cell 0 1", "net 2 cell 0",
                     "net 2 cell 1", "net 1 cell 0 cell 0", "net 2 cell 1 0", "net 1 cell 0 0", "net 1 cell 1",
                     "net 1 cell 0 1", "net 3 cell 0 1 cell 0 2 cell 1", "net 2 cell cell 0 1"]:
            self.assert_refused(text)

    def test_no_corners_and_nine(self):
        nine = " ".join(map(str, range(9)))
        for text in ["net 0", "net 0 cell", "net 0 cell 0", "net 9 cell " + nine, "net 8 cell " + nine,
                     "net 9 cell " + " cell ".join(map(str, range(9))), "net 10 cell " + nine + " 9"]:
            self.assert_refused(text)

    def test_very_long_numbers(self):
        for number in ["1" * 5000, "0" * 4999 + "1", "9" * 100000, "-" + "1" * 5000, "1" * 4301, "10" * 400]:
            for text in ["net " + number + " cell 0", "net 1 cell " + number, "net 2 cell 0 " + number, number,
                         "net 1 cell 0 cell " + number, "net 1 cell 0" + number]:
                self.assert_refused(text)

    def test_very_long_texts(self):
        for text in ["net 1" + " cell 0" * 20000, "net 1 cell" + " 0" * 20000, "net 1 cell 0" + " " * 20000,
                     "net " * 20000, "net 8 cell 0 1 2 3 4 5 6 7" + " cell" * 20000]:
            self.assert_refused(text)

    def test_every_sign_put_in_left_out_or_exchanged(self):
        for text in SPOILED_TEXTS:
            for place in range(len(text) + 1):
                self.assert_read(text[:place] + text[place + 1:])
                for sign in SIGNS:
                    self.assert_read(text[:place] + sign + text[place:])
                    self.assert_read(text[:place] + sign + text[place + 1:])

    def test_every_word_put_in_left_out_twice_or_exchanged(self):
        for text in SPOILED_TEXTS:
            words = text.split(" ")
            for place in range(len(words) + 1):
                self.assert_read(" ".join(words[:place] + words[place + 1:]))
                self.assert_read(" ".join(words[:place] + words[place - 1:]))
                for word in WORDS:
                    self.assert_read(" ".join(words[:place] + [word] + words[place:]))
                    self.assert_read(" ".join(words[:place] + [word] + words[place + 1:]))

    def test_every_two_words_exchanged(self):
        for text in SPOILED_TEXTS:
            words = text.split(" ")
            for one in range(len(words)):
                for other in range(one):
                    mixed = list(words)
                    mixed[one], mixed[other] = words[other], words[one]
                    self.assert_read(" ".join(mixed))

    def test_every_order_of_the_words(self):
        for words in permutations("net 2 cell 0 cell 1".split(" ")):
            self.assert_read(" ".join(words))

    def test_every_order_of_the_tops(self):
        for many, tops in [net for net in SMALL_NETS if len(net[1]) == 3]:
            for mixed in permutations(tops):
                self.assert_read(plain_writing((many, mixed)))

    def test_what_is_no_text_is_not_read(self):
        for thing in [thing for thing in STRANGE if not isinstance(thing, str)]:
            self.assertIs(NoText, refusal_of(read, thing), thing)

    def test_asked_again_the_same_is_told(self):
        for net in LARGE_NETS:
            text = written(net)
            self.assertEqual(text, written(net))
            self.assertEqual(repr(read(text)), repr(read(text)))
            self.assertIs(NoText, refusal_of(read, text + " "))
            self.assertIs(NoText, refusal_of(read, text + " "))
            self.assertEqual(net, read(text))


if __name__ == "__main__":
    unittest.main()
