"""Point [26]: audiences as texts."""

import re
import unittest

from keptandsaid.audiences import Audience
from keptandsaid.audiencetexts import read_audience, write_audience
from keptandsaid.errors import InvalidText
from keptandsaid.nets import Net

from helper import FIELDS, Numbers, changed_texts, expect, kind_of, line_begins, only_tuples, some_audiences, some_nets

AUDIENCE = Audience(3, 2, ((((1, 0), (2, 1)), ((0, 1),)), ((), ()), ((), ((1, 2), (0, 0))), (((0, 2),), ())))
TEXT = "\n".join([
    "audience 3 2",
    "listener", "knows 1,0", "knows 2,1", "wants 0,1",
    "listener",
    "listener", "wants 1,2", "wants 0,0",
    "listener", "knows 0,2",
])


def wrong_at(text):
    """Where the text is wrong, or None: line by line, by patterns."""
    lines = text.split("\n")
    begins = line_begins(lines)
    head = re.fullmatch("audience (2|3|5|7|11|13) ([1-9]|1[0-2])", lines[0])
    if head is None:
        return 0
    p, size = int(head[1]), int(head[2])
    letter = "(" + "|".join(str(k) for k in range(p)) + ")"
    ahead = "audience"
    for begin, line in list(zip(begins, lines))[1:]:
        word = line.partition(" ")[0]
        if word == "listener":
            right = line == "listener"
        else:
            right = re.fullmatch("(knows|wants) " + ",".join([letter] * size), line) is not None
            right = right and ahead != "audience" and not (word == "knows" and ahead == "wants")
        if not right:
            return begin
        ahead = word
    return None


def expect_at(case, at, text):
    error = expect(case, InvalidText, {"text": text, "at": at}, read_audience, text)
    case.assertIs(error.text, text)


class ThereAndBack(unittest.TestCase):
    def test_told_ones(self):
        for audience, text in (
            (AUDIENCE, TEXT),
            (Audience(2, 1, ()), "audience 2 1"),
            (Audience(13, 12, ()), "audience 13 12"),
            (Audience(2, 1, (((), ()),)), "audience 2 1\nlistener"),
            (Audience(13, 2, ((((12, 0),), ((10, 9),)),)), "audience 13 2\nlistener\nknows 12,0\nwants 10,9"),
            (Audience(2, 1, [(((1,),) * 3, ((0,),))]), "audience 2 1\nlistener\nknows 1\nknows 1\nknows 1\nwants 0"),
        ):
            self.assertEqual(write_audience(audience), text)
            self.assertEqual(write_audience(audience=audience), text)
            self.check(audience)
            self.assertEqual(read_audience(text=text), audience)

    def test_many(self):
        for audience in some_audiences(381, 150, {p: 12 for p in FIELDS}, 8):
            self.check(audience)
        for net in some_nets(382, 30):
            for p in FIELDS:
                self.check(net.audience(p))

    def test_many_listeners_and_rows(self):
        numbers = Numbers(383)
        for p in FIELDS:
            listeners = [(numbers.matrix(p, 2, 3), numbers.matrix(p, 1, 3)) for _ in range(60)]
            self.check(Audience(p, 3, listeners))
            self.check(Audience(p, 2, [(numbers.matrix(p, 90, 2), numbers.matrix(p, 70, 2))]))
        self.check(Audience(2, 1, (((), ()),) * 400))

    def test_sign_by_sign(self):
        for audience in some_audiences(384, 40, {p: 12 for p in FIELDS}):
            lines = [f"audience {audience.p} {audience.size}"]
            for knows, wants in audience.listeners:
                lines.append("listener")
                for word, rows in (("knows", knows), ("wants", wants)):
                    for row in rows:
                        lines.append(word + " " + ",".join(map(str, row)))
            self.assertEqual(write_audience(audience), "\n".join(lines))

    def check(self, audience):
        text = write_audience(audience)
        self.assertIs(type(text), str)
        self.assertIsNone(wrong_at(text))
        back = read_audience(text)
        self.assertIs(type(back), Audience)
        self.assertEqual((back.p, back.size, back.listeners), (audience.p, audience.size, audience.listeners))
        self.assertEqual(kind_of(back.listeners), kind_of(audience.listeners))
        self.assertTrue(only_tuples(back.listeners))


class WrongTexts(unittest.TestCase):
    def test_wrong_first_lines(self):
        for head in (
            "", "audience", "audience 2", "audience 2 ", "audience 4 2", "audience 1 2", "audience 17 2",
            "audience 0 2", "audience 2 0", "audience 2 13", "audience 2 100", "audience 02 2", "audience 2 02",
            "audience 2 2 ", "audience 2 2 2", "audience  2 2", "audience 2  2", " audience 2 2", "Audience 2 2",
            "audiences 2 2", "audience 2,2", "audience x 2", "audience 2 x", "audience 2 -1", "audience +2 2",
            "audience \u0662 2", "audience 2 \u00b2", "audience 2 2\r", "audience\t2 2", "board 2 2", "2 2", "listener",
            "audience 2 2\x0b",
        ):
            for behind in ("", "\n", "\nlistener", "\nlistener\nknows 1,0"):
                expect_at(self, 0, head + behind)

    def test_wrong_lines(self):
        for line in (
            "", " ", "listeners", "listener ", " listener", "listener 0", "Listener", "knows", "knows ", "knows 1",
            "knows 1,0,1", "knows 1,3", "knows 3,1", "knows 01,0", "knows 1,00", "knows 1,", "knows ,1", "knows 1,,0",
            "knows 1 0", "knows 1,0 ", "knows  1,0", " knows 1,0", "knows 1;0", "knows 1, 0", "knows -", "knows -1,0",
            "knows 1,100", "knows +1,0", "knows \u0661,0", "knows 1,0\r", "wants", "wants ", "wants 1", "wants 1,3",
            "wants 1,0,0", "wants 1,x", "wants -", "wants 0,00", "know 1,0", "wants:1,0", "audience 3 2", "hears 1,0",
            "-", "1,0", "knows\t1,0",
        ):
            for ahead in ("audience 3 2\nlistener\n", TEXT + "\n", "audience 3 2\nlistener\nknows 1,1\n"):
                for behind in ("", "\n", "\nlistener", "\nwrong"):
                    expect_at(self, len(ahead), ahead + line + behind)

    def test_a_row_where_none_may_stand(self):
        for line in ("knows 1,0", "wants 1,0"):
            expect_at(self, 13, "audience 3 2\n" + line)
            expect_at(self, 13, "audience 3 2\n" + line + "\nlistener")
        expect_at(self, 32, "audience 3 2\nlistener\nwants 1,0\nknows 1,0")
        expect_at(self, 42, "audience 3 2\nlistener\nwants 1,0\nwants 0,1\nknows 1,0\nwrong")
        expect_at(self, 42, "audience 3 2\nlistener\nknows 1,0\nwants 0,1\nknows 1,0")
        self.assertEqual(len(read_audience("audience 3 2\nlistener\nwants 1,0\nlistener\nknows 1,0").listeners), 2)

    def test_empty_text_and_line_feeds(self):
        for text in ("", "\n", "\n" + TEXT, "\n\n"):
            expect_at(self, 0, text)
        expect_at(self, len(TEXT) + 1, TEXT + "\n")
        expect_at(self, len(TEXT) + 1, TEXT + "\n\n")
        expect_at(self, 13, "audience 3 2\n")
        expect_at(self, 13, "audience 3 2\n\nlistener")
        for sign in ("\r\n", "\r", "\x0b", "\x0c", "\x1c", "\u2028", "\x85", ";"):
            expect_at(self, 0, TEXT.replace("\n", sign))

    def test_changed_in_every_way(self):
        numbers = Numbers(385)
        found = {True: 0, False: 0}
        texts = [TEXT] + [write_audience(audience) for audience in some_audiences(386, 12, {2: 4, 3: 3, 13: 3})]
        for text in texts + [write_audience(Net(3, ((0, 1), (1, 2))).audience(11))]:
            for changed in changed_texts(text, numbers):
                at = wrong_at(changed)
                if at is None:
                    self.assertEqual(write_audience(read_audience(changed)), changed)
                else:
                    expect_at(self, at, changed)
                found[at is None] += 1
        self.assertTrue(found[True] > 50 and found[False] > 1000, found)


if __name__ == "__main__":
    unittest.main()
