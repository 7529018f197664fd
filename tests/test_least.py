"""Promises 6, 7, 32 and 33: by how much promises have to be longer, and how few agents are enough."""

import random
import unittest
from itertools import combinations

from promisedesk.checking import book_holds, paper_holds
from promisedesk.desks import Desk, Stream, longer, only
from promisedesk.errors import BadValue, TooMany
from promisedesk.keeping import keep, rounds
from promisedesk.least import fewest_agents, least_more

from samples import CROWD, CROWD_STREAM, DRIP, ODD, STUCK, Raises, as_lists, is_plain
from slow import book_slow, paper_slow, rounds_slow, scenes_slow, small_places, walk

PLACES = small_places("least", 120)

CALM = Stream(((((0,), 0), ((), 0)),))
QUIET = Stream(((((), 0),),))


def working(work, promise):
    """A desk of one kind, which joins."""
    return Desk(1, ((work, promise, (0,), (), True),))


def kept_slowly(desk, stream):
    """Whether no promise can be broken whatever the desk does."""
    return rounds_slow(desk, stream, scenes_slow(desk, stream, 500)) is None


class MoreTest(Raises):

    def assert_told(self, desk, stream, found):
        more, book, papers = found
        self.assertIs(type(found), tuple)
        self.assertTrue(is_plain(found))
        self.assertIn(more, range(7))
        self.assertIs(book_holds(longer(desk, more), stream, book), True)
        self.assertTrue(book_slow(longer(desk, more), stream, book))
        self.assertEqual(len(papers), more)
        for lesser, paper in enumerate(papers):
            self.assertIs(paper_holds(longer(desk, lesser), stream, paper), True)
            self.assertTrue(paper_slow(longer(desk, lesser), stream, paper))

    def test_nothing_longer(self):
        for stream in (CALM, QUIET):
            more, book, papers = least_more(working(2, 2), stream)
            self.assertEqual((more, papers), (0, ()))
            self.assertEqual(book, keep(working(2, 2), stream)[1])

    def test_from_none_to_three_rounds(self):
        for work in (1, 2, 3, 4):
            for promise in range(1, 7):
                found = least_more(working(work, promise), CALM)
                self.assertEqual(found[0], max(0, work - promise))
                self.assert_told(working(work, promise), CALM, found)

    def test_six_rounds_and_seven(self):
        # Both kinds come in once, at the same time, and kind 1 waits for kind 0; in all 7 or 8 rounds of work.
        once = Stream(((((0, 1), 1),), (((), 1),)))
        for work, told in ((3, 6), (4, None)):
            desk = Desk(1, ((4, 4, (0,), (), False), (work, 1, (0,), (0,), False)))
            found = least_more(desk, once)
            if told is None:
                self.assertIsNone(found)
                self.assertEqual(keep(longer(desk, 6), once)[0], "paper")
            else:
                self.assertEqual(found[0], told)
                self.assert_told(desk, once, found)

    def test_none(self):
        self.assertIsNone(least_more(Desk(1, ((1, 6, (), (), False),)), Stream(((((0,), 1),), (((), 1),)))))
        self.assertIsNone(least_more(STUCK, Stream(((((1,), 0), ((0,), 1)), (((), 1),)))))

    def test_all_promises_become_longer(self):
        # Kind 0 alone would need no longer promise.
        desk = Desk(1, ((1, 3, (0,), (), False), (2, 1, (0,), (), False)))
        found = least_more(desk, Stream(((((1,), 1), ((0,), 1)), (((), 0),))))
        self.assertEqual(found[0], 1)
        self.assert_told(desk, Stream(((((1,), 1), ((0,), 1)), (((), 0),))), found)

    def test_the_same_as_found_slowly(self):
        told = []
        for desk, stream, _ in PLACES:
            try:
                found = least_more(desk, stream)
            except TooMany:
                continue
            if found is None:
                told.append(None)
                self.assertFalse(kept_slowly(longer(desk, 6), stream))
                continue
            told.append(found[0])
            self.assert_told(desk, stream, found)
            if found[0] > 0:
                self.assertFalse(kept_slowly(longer(desk, found[0] - 1), stream))
            self.assertTrue(kept_slowly(longer(desk, found[0]), stream))
        for more in (0, 1, 2, None):
            self.assertIn(more, told)

    def test_too_many_scenes_of_a_longer_desk(self):
        desk = Desk(3, ((2, 1, (0, 1, 2), (), False),))
        stream = Stream(((((0, 0, 0), 0), ((), 0)),))
        for more, many in enumerate((1, 5, 43)):
            self.assertEqual(len(scenes_slow(longer(desk, more), stream, 500)), many)
            self.assertEqual(keep(longer(desk, more), stream)[0], "paper")
        self.assert_word("scenes", keep, longer(desk, 3), stream)
        self.assert_word("scenes", least_more, desk, stream)

    def test_only_as_far_as_it_is_looked_at(self):
        # Longer by 2, the desk has too many scenes; but its promises can be kept as they are.
        desk = Desk(3, ((1, 3, (0, 1, 2), (), False), (2, 3, (0, 1, 2), (), False)))
        stream = Stream(((((0, 0, 1), 1), ((0,), 1)), (((), 0), ((0,), 0))))
        self.assert_word("scenes", keep, longer(desk, 2), stream)
        self.assertEqual(least_more(desk, stream)[0], 0)

    def test_promises_up_to_six(self):
        self.assertEqual(least_more(Desk(1, ((1, 6, (0,), (), True),)), CALM)[0], 0)
        for promises in ((7,), (12,), (6, 7), (7, 1), (1, 6, 8)):
            desk = Desk(1, [(1, promise, (0,), (), True) for promise in promises])
            # Although no promise has to be longer; and whatever the stream is.
            for stream in (CALM, QUIET, Stream(((((2,), 0),),)), None, (), desk, CROWD_STREAM):
                self.assert_at(BadValue, 1, least_more, desk, stream)

    def test_errors(self):
        low = Desk(2, ((1, 6, (0,), (), False), (4, 6, (0, 1), (0,), True)))
        for value in ODD + (CALM, (), (1, low.kinds)):
            self.assert_at(BadValue, 1, least_more, value, CALM)
            self.assert_at(BadValue, 1, least_more, value, None)
        for value in ODD + (low, (), CALM.states, Stream(((((2,), 0),),))):
            self.assert_at(BadValue, 2, least_more, low, value)
        six = Desk(3, ((4, 6, (0, 1, 2), (), False), (4, 6, (0, 1, 2), (), False)))
        self.assert_word("scenes", least_more, six, CROWD_STREAM)
        self.assertEqual(least_more.__module__, "promisedesk.least")

    def test_names_of_arguments(self):
        desk = working(3, 1)
        self.assertEqual(least_more(stream=CALM, desk=desk)[0], 2)
        self.assertEqual(desk, working(3, 1))


class FewestTest(Raises):

    def assert_told(self, desk, stream, found):
        kept, book, papers = found
        self.assertIs(type(found), tuple)
        self.assertTrue(is_plain(found))
        self.assertEqual(kept, tuple(sorted(set(kept))))
        self.assertIs(book_holds(only(desk, kept), stream, book), True)
        self.assertTrue(book_slow(only(desk, kept), stream, book))
        # The agents keep their numbers, so the book is one of the whole desk, too.
        self.assertIs(book_holds(desk, stream, book), True)
        self.assertEqual({agent for triple in book for agent, _ in triple[2]} - set(kept), set())
        fewer = list(combinations(range(desk.agents), len(kept) - 1)) if kept else []
        self.assertEqual([agents for agents, _ in papers], fewer)
        for agents, paper in papers:
            self.assertIs(paper_holds(only(desk, agents), stream, paper), True)
            self.assertTrue(paper_slow(only(desk, agents), stream, paper))

    def test_no_agents_needed(self):
        for agents in (1, 2, 3):
            desk = Desk(agents, ((1, 1, tuple(range(agents)), (), False),))
            self.assertEqual(fewest_agents(desk, QUIET), ((), ((0, (), ()),), ()))
            self.assertEqual(fewest_agents(Desk(agents, ((1, 1, (), (), False),)), QUIET)[0], ())
        # What would come in does in no course.
        self.assertEqual(fewest_agents(STUCK, Stream(((((), 0),), (((0, 1), 1),))))[0], ())

    def test_all_agents_needed(self):
        for agents in (1, 2, 3):
            desk = Desk(agents, ((1, 1, tuple(range(agents)), (), False),))
            stream = Stream(((((0,) * agents, 0),),))
            found = fewest_agents(desk, stream)
            self.assertEqual(found[0], tuple(range(agents)))
            self.assertEqual(len(found[2]), agents)
            self.assert_told(desk, stream, found)

    def test_one_agent_of_several(self):
        for able in (0, 1, 2):
            desk = Desk(3, ((1, 2, (able,), (), False),))
            found = fewest_agents(desk, CALM)
            self.assertEqual(found[0], (able,))
            # With no agents there is one tuple alone.
            self.assertEqual([agents for agents, _ in found[2]], [()])
            self.assertEqual({agent for triple in found[1] for agent, _ in triple[2]}, {able})
            self.assert_told(desk, CALM, found)

    def test_two_agents_that_are_not_the_first_ones(self):
        desk = Desk(3, ((1, 1, (2,), (), False), (1, 1, (0, 1), (), False)))
        stream = Stream(((((0, 1), 0),),))
        found = fewest_agents(desk, stream)
        self.assertIn(found[0], ((0, 2), (1, 2)))
        self.assertEqual([agents for agents, _ in found[2]], [(0,), (1,), (2,)])
        self.assert_told(desk, stream, found)
        # Agent 0 is able for nothing.
        desk = Desk(3, ((1, 1, (2,), (), False), (1, 1, (1,), (), False)))
        found = fewest_agents(desk, stream)
        self.assertEqual(found[0], (1, 2))
        self.assert_told(desk, stream, found)

    def test_none(self):
        for agents in (1, 2, 3):
            desk = Desk(agents, ((1, 1, tuple(range(agents)), (), False), (1, 1, (), (), False)))
            self.assertIsNone(fewest_agents(desk, Stream(((((0,), 0), ((1,), 0)),))))
        self.assertIsNone(fewest_agents(STUCK, DRIP))

    def test_the_same_as_found_slowly(self):
        told = []
        for desk, stream, _ in PLACES:
            found = fewest_agents(desk, stream)
            if found is None:
                told.append(None)
                self.assertIsNotNone(rounds(desk, stream))
                self.assertFalse(kept_slowly(desk, stream))
                continue
            told.append((len(found[0]), desk.agents))
            self.assert_told(desk, stream, found)
            for many in range(len(found[0])):
                for agents in combinations(range(desk.agents), many):
                    self.assertFalse(kept_slowly(only(desk, agents), stream))
            self.assertTrue(walk(only(desk, found[0]), stream, found[1], random.Random("walk"), 60))
        self.assertGreater(told.count(None), 10)
        for many in ((0, 1), (1, 1), (1, 2), (1, 3), (2, 3)):
            self.assertIn(many, told)

    def test_too_many_scenes_of_the_desk_itself(self):
        # Agents 0 and 1 alone have exactly 400 scenes and keep all promises; all three have 401.
        desk = Desk(3, ((3, 4, (2,), (), True), (2, 6, (0, 1), (0,), False), (1, 5, (1, 2), (1,), False)))
        stream = Stream(((((1, 1), 1),), (((), 0), ((), 0), ((2,), 1))))
        self.assertEqual(len(scenes_slow(desk, stream, 500)), 401)
        self.assertEqual(len(scenes_slow(only(desk, (0, 1)), stream, 500)), 400)
        self.assertEqual(keep(only(desk, (0, 1)), stream)[0], "book")
        self.assert_word("scenes", fewest_agents, desk, stream)
        found = fewest_agents(only(desk, (0, 1)), stream)
        self.assertIn(found[0], ((0, 1), (1,), (0,)))
        self.assert_told(only(desk, (0, 1)), stream, found)

    def test_many_scenes(self):
        desk = Desk(2, ((2, 7, (0, 1), (), False),))
        stream = Stream(((((), 3), ((0,), 1), ((), 2)), (((0,), 3),), (((0,), 0),), (((), 1),)))
        self.assertEqual(len(scenes_slow(desk, stream, 500)), 400)
        found = fewest_agents(desk, stream)
        self.assertEqual(len(found[0]), 1)
        self.assert_told(desk, stream, found)

    def test_errors(self):
        self.assert_wants_desk_and_stream(fewest_agents)
        self.assert_word("scenes", fewest_agents, CROWD, CROWD_STREAM)
        self.assertEqual(fewest_agents.__module__, "promisedesk.least")

    def test_names_of_arguments(self):
        desk = Desk(2, as_lists(((1, 2, (1,), (), False),)))
        self.assertEqual(fewest_agents(stream=CALM, desk=desk)[0], (1,))
        self.assertEqual(desk, Desk(2, ((1, 2, (1,), (), False),)))


if __name__ == "__main__":
    unittest.main()
