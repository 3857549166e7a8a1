"""Point [10]: nets as texts."""

import unittest

from keptandsaid.errors import InvalidText
from keptandsaid.nets import Net
from keptandsaid.nettexts import read_net, write_net

from helper import all_nets, expect, some_nets

TEXT = "net 3\n1,2\n-\n0"


def expect_at(case, at, text):
    error = expect(case, InvalidText, {"text": text, "at": at}, read_net, text)
    case.assertIs(error.text, text)


class ThereAndBack(unittest.TestCase):
    def test_told_ones(self):
        for net, text in (
            (Net(3, ((0, 1), (0, 2), (2, 0))), TEXT),
            (Net(1, ()), "net 1\n-"),
            (Net(2, ((0, 1), (1, 0))), "net 2\n1\n0"),
            (Net(12, ((0, 9), (0, 10), (0, 11), (11, 0), (11, 10))), "net 12\n9,10,11" + "\n-" * 10 + "\n0,10"),
            (Net(10, ()), "net 10" + "\n-" * 10),
        ):
            self.assertEqual(write_net(net), text)
            self.assertEqual(write_net(net=net), text)
            self.assertEqual(read_net(text), net)
            self.assertEqual(read_net(text=text), net)

    def test_all_small_and_many_great_ones(self):
        for net in list(all_nets(1)) + list(all_nets(2)) + list(all_nets(3)) + list(some_nets(21, 200)):
            text = write_net(net)
            self.assertIs(type(text), str)
            self.assertEqual(len(text.split("\n")), net.size + 1)
            back = read_net(text)
            self.assertEqual((back.size, back.arcs, back.knows), (net.size, net.arcs, net.knows))


class WrongTexts(unittest.TestCase):
    def test_wrong_first_lines(self):
        for head in (
            "", "net", "net ", "net 0", "net 13", "net 99", "net 100", "net 03", "net 00", "net 012", "net -1", "net +3",
            "net 3 ", " net 3", "net  3", "Net 3", "nets 3", "3", "net3", "net 3,", "net 3.", "net a", "net 1_0", "net 3 4",
            "net \u0663", "net \u00b2", "net\t3", "net 3\r", "net 3\x0b", "net x3", "1,2", "-",
        ):
            expect_at(self, 0, head)
            expect_at(self, 0, head + "\n1,2\n-\n0")
            expect_at(self, 0, head + "\n")

    def test_wrong_lines_of_places(self):
        for line in (
            "", " ", "3", "12", "99", "1,3", "0", "0,1", "1,0", "1,1", "2,1", "2,2", "1,2,2", "-1", "--", "-,1", "1,-", ",",
            "1,", ",1", "1,,2", "01", "1,02", "00", "001", "100", "1 ", " 1", "1, 2", "1;2", "1 2", "a", "1,a", "+1", "- ",
            "None", "1\r", "\u0661", "\u00b9", "1.", "1_1", "net 3", "1,2,3", "1\t",
        ):
            expect_at(self, 6, "net 3\n" + line + "\n-\n-")
            expect_at(self, 6, "net 3\n" + line)
            expect_at(self, 6, "net 3\n" + line + "\nwrong\n\n\n")

    def test_the_first_wrong_line_counts(self):
        expect_at(self, 8, "net 3\n1\n1\n-")
        expect_at(self, 8, "net 3\n-\n0,1\n-")
        expect_at(self, 12, "net 3\n1,2\n-\n2")
        expect_at(self, 12, "net 3\n1,2\n-\n")
        expect_at(self, 12, "net 3\n1,2\n-\n0,1,2\n-")
        expect_at(self, 10, "net 3\n1,2\n\n0")
        expect_at(self, 10, "net 3\n1,2\n3\nwrong")

    def test_places_of_a_line_depend_on_place_and_size(self):
        self.assertEqual(read_net("net 2\n1\n0").arcs, ((0, 1), (1, 0)))
        expect_at(self, 6, "net 2\n0\n0")
        expect_at(self, 8, "net 2\n1\n1")
        expect_at(self, 6, "net 2\n2\n0")
        expect_at(self, 6, "net 1\n0")
        expect_at(self, 6, "net 1\n1")
        self.assertEqual(read_net("net 12\n11" + "\n-" * 11).arcs, ((0, 11),))
        expect_at(self, 7, "net 11\n11" + "\n-" * 10)

    def test_lines_are_lacking(self):
        expect_at(self, 5, "net 1")
        expect_at(self, 5, "net 3")
        expect_at(self, 9, "net 3\n1,2")
        expect_at(self, 11, "net 3\n1,2\n-")
        expect_at(self, 6, "net 12")
        text = "net 12" + "\n-" * 11
        expect_at(self, len(text), text)

    def test_empty_text(self):
        expect_at(self, 0, "")
        expect_at(self, 0, "\n")
        expect_at(self, 0, "\n" + TEXT)

    def test_line_feed_at_the_end(self):
        expect_at(self, len(TEXT) + 1, TEXT + "\n")
        expect_at(self, 8, "net 1\n-\n")
        expect_at(self, 6, "net 1\n")
        expect_at(self, 12, "net 3\n1,2\n-\n")

    def test_too_many_lines(self):
        for more in ("-", "", "0", "1", "2", "3", "net 3", "wrong", "-\n-", "\n", "-\n"):
            expect_at(self, len(TEXT) + 1, TEXT + "\n" + more)
        expect_at(self, 8, "net 1\n-\n-")
        text = "net 12" + "\n-" * 12
        expect_at(self, len(text) + 1, text + "\n-")

    def test_other_separators_are_no_line_feeds(self):
        for sign in ("\r\n", "\r", "\x0b", "\x0c", "\x1c", "\u2028", "\x85", ";"):
            expect_at(self, 0, TEXT.replace("\n", sign))


if __name__ == "__main__":
    unittest.main()
