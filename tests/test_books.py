"""Promises 2, 12, 22 and 23: which books hold."""

import random
import unittest

from promisedesk.checking import book_holds
from promisedesk.desks import Desk, Stream
from promisedesk.keeping import keep
from promisedesk.scenes import deals, is_scene

from changes import cut, replaced, some
from samples import ODD, Raises, as_lists
from slow import book_slow, small_places, walk

PLACES = small_places("books", 120, 40)

LOW, HIGH = (0, 1, 1), (0, 1, 2)

# One agent; kind 0 is done at once or in the next round. One arc brings it, the other one nothing.
DESK = Desk(1, ((1, 2, (0,), (), False),))
STREAM = Stream(((((0,), 0), ((), 0)),))
BOOK = ((0, (), ()), (0, (HIGH,), ((0, HIGH),)))
LATE = ((0, (), ()), (0, (LOW,), ((0, LOW),)), (0, (LOW, HIGH), ((0, LOW),)), (0, (HIGH,), ()))

# The same, but nothing ever comes.
QUIET = Stream(((((), 0),),))


class BookTest(Raises):

    def assert_holds(self, truth, book, desk=DESK, stream=STREAM):
        self.assertIs(book_holds(desk, stream, book), truth, book)
        self.assertIs(book_holds(desk, stream, as_lists(book)), truth, book)

    def test_books_that_hold(self):
        self.assert_holds(True, BOOK)
        self.assert_holds(True, LATE)
        self.assert_holds(True, ((0, (), ()),), DESK, QUIET)

    def test_empty_book(self):
        for desk, stream in ((DESK, STREAM), (DESK, QUIET)):
            for book in ((), []):
                self.assertIs(book_holds(desk, stream, book), False)

    def test_moments_of_the_first_scene(self):
        self.assert_holds(False, BOOK[:1])
        self.assert_holds(False, BOOK[1:])
        self.assert_holds(True, BOOK[:1], DESK, QUIET)
        self.assert_holds(False, BOOK[1:], DESK, QUIET)

    def test_moments_behind(self):
        for at in range(4):
            self.assert_holds(False, LATE[:at] + LATE[at + 1:])
        # The first scene's moments are there, but not all those behind them.
        self.assert_holds(False, ((0, (), ()), (0, (HIGH,), ())))

    def test_promise_broken(self):
        self.assert_holds(False, LATE[:1] + ((0, (LOW,), ()),) + LATE[2:])
        self.assert_holds(False, LATE[:2] + ((0, (LOW, HIGH), ((0, HIGH),)),) + LATE[3:])
        self.assert_holds(False, LATE[:2] + ((0, (LOW, HIGH), ()),) + LATE[3:])

    def test_triples_that_never_come_about(self):
        row = (0, (LOW,), ((0, LOW),))
        self.assert_holds(True, (BOOK[0], row, BOOK[1]))
        # By these a promise is broken, or what lies behind them is not in the book.
        for row in ((0, (LOW,), ()), (0, (LOW, LOW), ((0, LOW),)), (0, (LOW, HIGH), ((0, LOW),))):
            self.assert_holds(False, (BOOK[0], row, BOOK[1]))
        self.assert_holds(False, BOOK + ((0, (HIGH, HIGH), ((0, HIGH),)),))

    def test_order(self):
        self.assert_holds(False, BOOK[::-1])
        self.assert_holds(False, (LATE[0], LATE[2], LATE[1], LATE[3]))
        self.assert_holds(False, (LATE[0], LATE[1], LATE[3], LATE[2]))

    def test_no_two_with_the_same_moment(self):
        self.assert_holds(False, BOOK[:1] + BOOK)
        self.assert_holds(False, BOOK + BOOK[1:])
        self.assert_holds(False, (LATE[0], LATE[1], LATE[2], (0, (HIGH,), ()), (0, (HIGH,), ((0, HIGH),))))
        self.assert_holds(False, (LATE[0], LATE[1], LATE[2], (0, (HIGH,), ((0, HIGH),)), (0, (HIGH,), ())))

    def test_states_ahead_of_tickets(self):
        stream = Stream(((((0,), 1),), (((), 0),)))
        book = ((0, (), ()), (1, (HIGH,), ((0, HIGH),)))
        self.assert_holds(True, book, DESK, stream)
        self.assert_holds(False, book[::-1], DESK, stream)
        self.assert_holds(False, ((0, (), ()), (0, (HIGH,), ((0, HIGH),))), DESK, stream)
        self.assert_holds(True, ((0, (), ()), (0, (HIGH,), ((0, HIGH),)), book[1]), DESK, stream)

    def test_odd_books(self):
        for book in ODD + (DESK.kinds, STREAM.states, {0: ()}, "book", ("book", BOOK), [[]]):
            self.assertIs(book_holds(DESK, STREAM, book), False)

    def test_odd_parts(self):
        for odd in ODD + ((), [0], 0):
            self.assert_holds(False, BOOK + (odd,))
            self.assert_holds(False, (odd,) + BOOK)
            self.assertIs(book_holds(DESK, STREAM, BOOK[:1] + ((odd,) + BOOK[1][1:],)), odd == 0 and odd is not False)
            self.assert_holds(False, BOOK[:1] + ((0, odd, ((0, HIGH),)),))
            self.assert_holds(False, BOOK[:1] + ((0, (odd,), ((0, HIGH),)),))
            self.assert_holds(False, BOOK[:1] + ((0, (HIGH,), (odd,)),))
            self.assert_holds(False, BOOK[:1] + ((0, (HIGH,), ((0, odd),)),))
            self.assert_holds(False, BOOK[:1] + (BOOK[1] + (odd,),))
            if odd not in ((), [0], 0):
                self.assert_holds(False, BOOK[:1] + ((0, (HIGH,), odd),))

    def test_true_is_no_integer(self):
        one = Desk(2, ((1, 1, (0, 1), (), False),))
        two = Stream(((((0,), 1),), (((0,), 0),)))
        book = ((0, (LOW,), ((1, LOW),)), (1, (LOW,), ((0, LOW),)))
        self.assert_holds(True, book, one, two)
        for row in ((True, (LOW,), ((0, LOW),)), (1, ((0, True, 1),), ((0, LOW),)), (1, (LOW,), ((False, LOW),)),
                    (1, (LOW,), ((0, (0, 1, True)),)), (1, ((False, 1, 1),), ((0, LOW),))):
            self.assert_holds(False, (book[0], row), one, two)

    def test_deals_that_are_none(self):
        wide = Desk(2, ((1, 2, (0,), (), False), (1, 2, (1,), (0,), False)))
        stream = Stream(((((0, 1), 0), ((), 0)),))
        kind, held = (0, 1, 2), (1, 1, 2)
        book = ((0, (), ()), (0, (kind, held), ((0, kind),)), (0, (kind, (1, 1, 1), held), ((0, kind),)),
                (0, ((1, 1, 1),), ((1, (1, 1, 1)),)))
        self.assert_holds(False, book, wide, stream)
        for deal in (((1, held),), ((0, kind), (1, held)), ((1, kind),), ((0, kind), (1, kind)), ((0, held),),
                     ((0, kind), (0, kind)), ((2, kind),), (kind,), (0, kind)):
            self.assert_holds(False, replaced(book, 1, (0, (kind, held), deal)), wide, stream)

    def test_exactly_thirty_six_tickets(self):
        trio = Desk(3, ((1, 12, (0, 1, 2), (), False),))
        rows = [tuple((0, 1, time) for time in range(1, last + 1) for _ in range(3)) for last in range(13)]
        book = tuple((0, tickets, tuple(enumerate(tickets[:3]))) for tickets in rows)
        self.assertEqual(len(book[-1][1]), 36)
        self.assert_holds(True, book, trio, QUIET)
        self.assert_holds(False, book[:5] + book[6:], trio, QUIET)

    def test_moments_of_more_than_forty_tickets(self):
        # The book goes on to 38 open tickets; the arc then makes a moment of 41 of them.
        trio = Desk(3, ((1, 12, (0, 1, 2), (), False),))
        stream = Stream(((((), 0), ((0, 0, 0), 0)),))
        for many in range(34, 41):
            tickets = ((0, 1, 12),) * many
            self.assertTrue(is_scene(trio, stream, (0, tickets)))
            row = (0, tickets, ())
            self.assert_holds(False, ((0, (), ()), row), trio, stream)
            self.assert_holds(False, ((0, (), ()), row, (0, ((0, 1, 12),) * (many + 1), ())), trio, stream)

    def test_what_keep_returns(self):
        for desk, stream, _ in PLACES:
            word, found = keep(desk, stream)
            self.assert_holds(word == "book", found, desk, stream)

    def test_changed_books(self):
        rng = random.Random("changed books")
        told = []
        for desk, stream, _ in PLACES:
            word, book = keep(desk, stream)
            if word == "paper":
                continue
            for other in cut(rng, book, 3) + self.other_deals(rng, desk, stream, book):
                truth = book_slow(desk, stream, other)
                self.assert_holds(truth, other, desk, stream)
                told.append(truth)
                if truth:
                    self.assertTrue(walk(desk, stream, other, rng, 40))
        self.assertGreater(told.count(True), 20)
        self.assertGreater(told.count(False), 200)

    @staticmethod
    def other_deals(rng, desk, stream, book):
        found = []
        for at in some(rng, range(len(book)), 6):
            state, tickets, _ = book[at]
            for deal in some(rng, deals(desk, stream, (state, tickets)), 3):
                found.append(replaced(book, at, (state, tickets, deal)))
                found.append(tuple(sorted(book + ((state, tickets[1:], deal),))))
        return found

    def test_passed_lists_are_not_changed(self):
        book = as_lists(LATE)
        self.assertIs(book_holds(desk=DESK, stream=STREAM, book=book), True)
        self.assertEqual(book, as_lists(LATE))

    def test_errors(self):
        for book in (BOOK, (), None):
            self.assert_wants_desk_and_stream(book_holds, book)
        self.assertEqual(book_holds.__module__, "promisedesk.checking")


if __name__ == "__main__":
    unittest.main()
