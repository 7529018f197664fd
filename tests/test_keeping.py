"""Promises 1 to 4, 10, 26 and 27: books and papers that are found, and in how few rounds."""

import random
import unittest

from promisedesk.ahead import knowing
from promisedesk.checking import book_holds, paper_holds
from promisedesk.desks import Desk, Stream
from promisedesk.errors import TooMany
from promisedesk.keeping import keep, rounds

from samples import CROWD, CROWD_STREAM, DRIP, STUCK, Raises, is_plain
from slow import book_slow, paper_slow, random_desk, random_stream, rounds_by_paper, rounds_slow, small_places, walk

PLACES = small_places("keeping", 150)

ONE = Desk(1, ((1, 2, (0,), (), False), (2, 2, (0,), (), False)))


class KeepTest(Raises):

    def test_what_the_document_shows(self):
        calm = Stream(((((0,), 0), ((), 0)),))
        self.assertEqual(keep(ONE, calm)[0], "book")
        self.assertIsNone(rounds(ONE, calm))
        busy = Stream(((((0, 1), 0),),))
        self.assertEqual(keep(ONE, busy)[0], "paper")
        self.assertEqual(rounds(ONE, busy), 2)

    def test_nothing_ever_comes(self):
        for states in (((((), 0),),), ((((), 1),), (((), 0), ((), 1)))):
            self.assertEqual(keep(ONE, Stream(states))[0], "book")
            self.assertIsNone(rounds(ONE, Stream(states)))
        self.assertEqual(keep(ONE, Stream(((((), 0),),))), ("book", ((0, (), ()),)))

    def test_one_round(self):
        for kind in ((2, 1, (0,), (), False), (1, 1, (), (), False)):
            desk = Desk(1, (kind,))
            stream = Stream(((((), 0), ((0,), 0)),))
            self.assertEqual(rounds(desk, stream), 1)
            self.assertEqual(keep(desk, stream), ("paper", ((0, (), 1),)))

    def test_one_round_fewer_than_the_work_wants(self):
        for work in (1, 2, 3, 4):
            for promise in range(1, 7):
                desk = Desk(1, ((work, promise, (0,), (), True),))
                stream = Stream(((((0,), 0), ((), 0)),))
                told = keep(desk, stream)[0]
                self.assertEqual(told, "book" if work <= promise else "paper")
                self.assertEqual(rounds(desk, stream), None if work <= promise else promise)

    def test_nobody_is_able(self):
        self.assertEqual(keep(STUCK, DRIP)[0], "paper")
        # Kind 1 is held by kind 0 as long as that is open, and promised within 2 rounds.
        self.assertEqual(rounds(STUCK, DRIP), 2)
        self.assertIsNone(rounds(STUCK, Stream(((((1,), 0),),))))

    def test_states_that_are_never_reached(self):
        desk = Desk(1, ((2, 1, (0,), (), False),))
        stream = Stream(((((), 1),), (((), 0),), (((0,), 0),)))
        self.assertEqual(keep(desk, stream)[0], "book")
        self.assertIsNone(rounds(desk, stream))

    def test_the_desk_does_not_know_what_comes(self):
        desk = Desk(1, ((1, 2, (0,), (), True), (2, 3, (0,), (), True)))
        stream = Stream(((((1,), 0), ((0,), 0), ((), 0)),))
        self.assertEqual(keep(desk, stream)[0], "paper")
        self.assertEqual(rounds(desk, stream), 6)
        self.assertEqual(knowing(desk, stream)[0], "sets")

    def test_one_of_two(self):
        told = []
        for desk, stream, scenes in PLACES:
            word, found = keep(desk, stream)
            told.append(word)
            many = rounds_slow(desk, stream, scenes)
            self.assertEqual(word, "book" if many is None else "paper")
            self.assertEqual(rounds(desk, stream), many)
            if word == "book":
                self.assertIs(book_holds(desk, stream, found), True)
                self.assertTrue(book_slow(desk, stream, found))
                self.assertFalse(paper_holds(desk, stream, found))
            else:
                self.assertIs(paper_holds(desk, stream, found), True)
                self.assertTrue(paper_slow(desk, stream, found))
                self.assertFalse(book_holds(desk, stream, found))
        self.assertGreater(told.count("book"), 20)
        self.assertGreater(told.count("paper"), 20)

    def test_books_keep_every_promise(self):
        rng = random.Random("books")
        for desk, stream, _ in PLACES:
            word, found = keep(desk, stream)
            if word == "book":
                for _ in range(5):
                    self.assertTrue(walk(desk, stream, found, rng, 60))

    def test_papers_break_a_promise(self):
        asked = 0
        for desk, stream, _ in PLACES:
            word, found = keep(desk, stream)
            if word == "paper":
                many = rounds_by_paper(desk, stream, found)
                self.assertLessEqual(many, len(found))
                self.assertGreaterEqual(many, rounds(desk, stream))
                asked += many > 2
        self.assertGreater(asked, 10)

    def test_several_rounds_that_need_not_be_the_longest(self):
        # By arc 0 it takes 2 rounds, by arc 1 only 1, by arc 2 it never ends.
        desk = Desk(1, ((3, 2, (0,), (), False), (2, 1, (0,), (), False), (1, 1, (0,), (), False)))
        stream = Stream(((((0,), 0), ((1,), 0), ((2,), 0)),))
        self.assertEqual(rounds(desk, stream), 1)
        self.assertEqual(rounds(desk, Stream(((((0,), 0), ((2,), 0)),))), 2)
        self.assertIsNone(rounds(desk, Stream(((((2,), 0),),))))

    def test_no_more_rounds_than_a_course_that_is_known(self):
        desk = Desk(1, ((1, 3, (0,), (), False), (1, 4, (0,), (), False), (1, 4, (0,), (1,), True)))
        stream = Stream(((((1,), 0), ((0, 2), 0)),))
        self.assertEqual(rounds(desk, stream), 6)
        self.assertEqual(len(knowing(desk, stream)[1]), 8)
        for place in PLACES:
            word, found = knowing(*place[:2])
            many = rounds(*place[:2])
            if word == "course":
                self.assertLessEqual(many, len(found))
            if many is None:
                self.assertEqual(word, "sets")

    def test_larger_places(self):
        rng = random.Random("larger")
        asked = 0
        while asked < 60:
            desk = random_desk(rng)
            desk = Desk(desk.agents, [(work, 2 * promise, *kind) for work, promise, *kind in desk.kinds])
            stream = random_stream(rng, len(desk.kinds))
            try:
                word, found = keep(desk, stream)
            except TooMany:
                continue
            asked += 1
            self.assertTrue((book_holds if word == "book" else paper_holds)(desk, stream, found))
            if word == "book":
                self.assertTrue(walk(desk, stream, found, rng, 100))
            else:
                self.assertLessEqual(rounds_by_paper(desk, stream, found), len(found))

    def test_plain_tuples(self):
        for desk, stream, _ in PLACES[:40]:
            pair = keep(desk, stream)
            self.assertIs(type(pair), tuple)
            self.assertEqual(len(pair), 2)
            self.assertTrue(is_plain(pair[1]))
            self.assertIn(type(rounds(desk, stream)), (int, type(None)))

    def test_names_of_arguments(self):
        self.assertEqual(keep(desk=STUCK, stream=DRIP)[0], "paper")
        self.assertEqual(rounds(stream=DRIP, desk=STUCK), 2)

    def test_the_same_again(self):
        for desk, stream, _ in PLACES[:40]:
            self.assertEqual(keep(desk, stream), keep(Desk(desk.agents, desk.kinds), Stream(stream.states)))

    def test_errors(self):
        for call in (keep, rounds):
            self.assert_wants_desk_and_stream(call)
            self.assert_word("scenes", call, CROWD, CROWD_STREAM)
            self.assertEqual(call.__module__, "promisedesk.keeping")


if __name__ == "__main__":
    unittest.main()
