"""Section 1: the sentences in bold and the example, over the whole program."""

import unittest

from keptandsaid.audiences import Audience
from keptandsaid.audiencetexts import read_audience, write_audience
from keptandsaid.boards import Board
from keptandsaid.books import book_holds, book_of
from keptandsaid.booktexts import read_book, write_book
from keptandsaid.broadcasts import first_wrong, signals_of
from keptandsaid.desk import Desk, replayed_desk
from keptandsaid.errors import Undefined
from keptandsaid.greatest import greatest_store
from keptandsaid.greedy import greedy_broadcast, told_row
from keptandsaid.histories import board_paper, paper_end, paper_holds
from keptandsaid.least import greatest_keeping, kept_most, least_telling, said_least
from keptandsaid.matrices import is_matrix, rank_of
from keptandsaid.nets import Net
from keptandsaid.nettexts import read_net, write_net
from keptandsaid.rings import parts_of, some_ring
from keptandsaid.stores import first_unkept
from keptandsaid.talks import Talk
from keptandsaid.tellings import first_unserved
from keptandsaid.words import every_word, shifted_words

from helper import FEW, Numbers, expect, lead, nets_and_letters, right_signals, some_audiences, some_nets, some_store


class Overview(unittest.TestCase):
    def test_the_example(self):
        listeners = ((((1, 0),), ((0, 1),)), (((0, 1),), ((1, 0),)), (((1, 1),), ((1, 0),)))
        self.assertEqual(said_least(Audience(2, 2, listeners)), 2)
        self.assertEqual(said_least(Audience(3, 2, listeners)), 1)
        self.assertEqual(kept_most(Audience(3, 2, listeners)), 1)

    def test_said_and_kept_add_up_and_a_book_shows_it(self):
        for audience in some_audiences(431, 80, FEW):
            p, size = audience.p, audience.size
            said = said_least(audience)
            self.assertEqual(said + kept_most(audience), size)
            telling, store = least_telling(audience), greatest_keeping(audience)
            self.assertTrue(is_matrix(telling, p, size) and is_matrix(store, p, size))
            self.assertEqual((len(telling), rank_of(p, store)), (said, size - said))
            self.assertIsNone(first_unserved(audience, telling))
            self.assertIsNone(first_unkept(audience, store))
            book = book_of(audience, said)
            self.assertIs(book_holds(audience, said, book), True)
            self.assertIs(book_holds(audience, said + 1, book), False)
            expect(self, Undefined, {"what": "book"}, book_of, audience, said + 1)
            self.assertEqual(read_book(p, size, write_book(book)), book)
            self.assertEqual(said_least(read_audience(write_audience(audience))), said)

    def test_over_a_line_that_loses(self):
        numbers = Numbers(432)
        for audience in some_audiences(433, 40, FEW):
            talk = Talk(audience, numbers.matrix(audience.p, 1, audience.size)[0])
            first = talk.lacking()
            while talk.lacking() > 0:
                heard_by_all = numbers.below(talk.lacking())
                losses = tuple(
                    tuple(row for row in range(talk.lacking()) if row != heard_by_all and numbers.below(3))
                    for _ in audience.listeners
                )
                talk.hear(losses)
                self.assertLessEqual(talk.lacking(), len({row for lost in losses for row in lost}))
            self.assertLessEqual(talk.ended, first)

    def test_nets(self):
        for net in some_nets(434, 60, 6):
            for p in (2, 3, 5, 7, 11, 13):
                if net.size <= FEW[p]:
                    said = said_least(net.audience(p))
                    self.assertEqual(said == net.size, some_ring(net) is None)
                    self.assertEqual(said == 1, len(net.arcs) == net.size * (net.size - 1))
                    self.assertEqual(said, said_least(net.turned().audience(p)))
                    self.assertEqual(said, sum(said_least(net.within(lot).audience(p)) for lot in parts_of(net)))

    def test_of_any_kind(self):
        numbers = Numbers(435)
        for net, q in nets_and_letters(436, 25):
            words = every_word(net, q)
            store = some_store(net, q, numbers)
            counts = {word: 0 for word in words}
            for by in words:
                for word in shifted_words(net, q, store, by):
                    counts[word] += 1
            self.assertEqual(set(counts.values()), {len(store)})
            laid = greedy_broadcast(net, q, store)
            self.assertIsNone(first_wrong(net, q, laid))
            self.assertLessEqual(len(set(laid)), len(told_row(len(words), len(store))) - 1)
            if len(words) <= 32:
                greatest = greatest_store(net, q)
                broadcasts = [laid, right_signals(net, q, numbers), greedy_broadcast(net, q, greatest)]
                if q in FEW and net.size <= FEW[q]:
                    broadcasts.append(signals_of(net, q, least_telling(net.audience(q))))
                for signals in broadcasts:
                    self.assertGreaterEqual(len(set(signals)) * len(greatest), len(words))

    def test_histories_and_desks(self):
        numbers = Numbers(437)
        for net in some_nets(438, 8, 3):
            board = Board(3, net.size)
            for listener in net.audience(3).listeners:
                board.deed(("join", listener))
            self.assertEqual(board.audience(), net.audience(3))
            self.assertEqual(board.said(), said_least(net.audience(3)))
            desk = replayed_desk(read_net(write_net(net)), ["field 3"])
            self.assertEqual(desk.run("said"), str(board.said()))
            self.assertEqual(desk.run("turn"), Desk(net).run("turn"))
            lead(board, numbers, 15)
            self.assertIs(paper_holds(board_paper(board)), True)
            self.assertEqual(said_least(paper_end(board_paper(board))), board.said())

    def test_made_again_and_led_alike(self):
        papers = []
        for _ in range(2):
            board = lead(Board(2, 4), Numbers(439), 40)
            talk = Talk(Net(4, ((0, 1), (1, 2), (2, 0))).audience(3), (1, 2, 0, 1))
            told = [talk.say(), talk.hear(((0,), (), (0, 1), (2,))), talk.say(), talk.hear(((), (0,), (), ()))]
            heard = [(talk.heard(k), talk.got(k)) for k in range(4)]
            papers.append((board_paper(board), told, heard))
        self.assertEqual(papers[0], papers[1])


if __name__ == "__main__":
    unittest.main()
