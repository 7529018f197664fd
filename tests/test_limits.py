"""Promise 38: exactly which scenes and sets are too many; the checkers know no such limit."""

import unittest

from promisedesk.ahead import knowing, scenes_behind
from promisedesk.checking import book_holds, paper_holds, sets_hold
from promisedesk.desks import Desk, Stream, longer
from promisedesk.keeping import keep, rounds
from promisedesk.least import fewest_agents, least_more
from promisedesk.ranks import idle_rows, runs

from samples import CROWD, CROWD_STREAM, Raises
from slow import START, rounds_slow, scenes_slow, sets_slow
from slow_ranks import all_rows, runs_slow

# Exactly 400 scenes.
FULL = (
    (Desk(1, ((1, 8, (0,), (), False), (2, 5, (0,), (), False), (3, 6, (0,), (), False))), Stream(((((0, 1), 0),),))),
    (Desk(2, ((2, 5, (0, 1), (), False),)), Stream(((((0,), 0), ((0,), 1)), (((0, 0), 2),), (((0,), 1),)))),
    (Desk(2, ((1, 6, (0, 1), (), False), (3, 6, (1,), (), True))), Stream(((((), 1),), (((1,), 1), ((1,), 0), ((0,), 1))))),
)
# Exactly 401 scenes.
OVER = (Desk(3, ((2, 4, (0, 1, 2), (), False),)), Stream(((((0, 0, 0), 0), ((), 0)),)))

# Exactly 300 sets, and exactly 301, without a course whose set is empty.
SETS_300 = (Desk(2, ((1, 8, (1,), (), True), (1, 2, (0,), (), False), (1, 6, (0,), (), True))),
            Stream(((((0, 0, 2), 2),), (((0,), 5), ((0,), 2)), (((), 3),), (((), 1), ((), 2), ((2,), 5)),
                    (((1, 2), 5),), (((0, 2), 5), ((0, 2, 2), 1)))))
SETS_301 = (Desk(2, ((3, 10, (0, 1), (), True),)),
            Stream(((((), 2), ((), 2), ((0,), 0), ((0,), 0)), (((0,), 2),), (((0,), 0), ((0,), 1)))))

# With such a course: 300 sets of shorter courses, and more of courses as long; 301 sets of shorter courses.
COURSE_300 = (Desk(2, ((1, 5, (0, 1), (), False),)), Stream(((((0,), 1), ((0, 0, 0), 0), ((), 0)), (((0,), 0),))))
COURSE_301 = (Desk(2, ((1, 5, (0, 1), (), False), (1, 3, (0, 1), (), False))),
              Stream(((((0, 1, 1), 0), ((), 0), ((0,), 0), ((1, 1), 0)),)))

# What comes by the last arc can not be done in time; what comes by the others makes many scenes.
HASTY = (Desk(3, ((4, 12, (0, 1, 2), (), False), (2, 1, (0, 1, 2), (), False))),
         Stream(((((0, 0, 0), 0), ((0,), 0), ((1,), 0)),)))


# With promises longer by 6 exactly 400 scenes, and exactly 401; less long, there are fewer, and papers.
MORE_400 = (Desk(1, ((4, 3, (0,), (), False),)), Stream(((((0,), 1),), (((), 0),))))
MORE_401 = (MORE_400[0], Stream(((((), 1),), (((0,), 0),))))
# With promises longer by 2 exactly 400 scenes, and a book.
MORE_BOOK = (Desk(3, ((3, 6, (1,), (), True), (4, 2, (0, 2), (), True))),
             Stream(((((1,), 1), ((), 1), ((0, 1), 0)), (((1,), 1),))))

# More than 400 scenes; but one alone if all that comes in is done at once.
AT_ONCE = (Desk(3, ((1, 12, (0, 1, 2), (), False), (1, 11, (0, 1, 2), (), False))),
           Stream(((((0, 0, 1), 0), ((0, 1, 1), 0), ((), 0)),)))


def by_time(desk):
    """A ranking of all that the agents may do, what is due ahead, of at most 200 rows."""
    return sorted(all_rows(desk), key=lambda row: row[3])[:200]


class ScenesTest(Raises):

    def test_exactly_four_hundred(self):
        told = []
        for desk, stream in FULL:
            scenes = scenes_slow(desk, stream, 400)
            self.assertEqual(len(scenes), 400)
            word, found = keep(desk, stream)
            told.append(word)
            self.assertTrue((book_holds if word == "book" else paper_holds)(desk, stream, found))
            self.assertEqual(rounds(desk, stream), rounds_slow(desk, stream, scenes))
            self.assertEqual(scenes_behind(desk, stream, ()), (START,))
            self.assertEqual(knowing(desk, stream)[0], "sets" if word == "book" else "course")
            self.assertEqual(fewest_agents(desk, stream) is None, word == "paper")
            for ranking in ((), by_time(desk)):
                many, scenes, used = runs_slow(desk, stream, ranking)
                said, found = runs(desk, stream, ranking)
                self.assertEqual((said, len(found)), ("closed", len(scenes)) if many is None else ("course", many))
                self.assertEqual(idle_rows(desk, stream, ranking),
                                 tuple(at for at in range(len(ranking)) if at not in used))
        self.assertEqual(sorted(told), ["book", "paper", "paper"])

    def test_one_more(self):
        self.assertEqual(len(scenes_slow(*OVER, 401)), 401)
        for call in (keep, rounds, knowing):
            self.assert_word("scenes", call, *OVER)
        for call in (least_more, fewest_agents):
            self.assert_word("scenes", call, *OVER)
        for course in ((), (0,), (1,) * 300):
            self.assert_word("scenes", scenes_behind, *OVER, course)
        for ranking in ((), by_time(OVER[0])):
            self.assert_word("scenes", runs, *OVER, ranking)
            self.assert_word("scenes", idle_rows, *OVER, ranking)

    def test_many_more(self):
        for call in (keep, rounds, knowing, fewest_agents):
            self.assert_word("scenes", call, CROWD, CROWD_STREAM)
            self.assert_word("scenes", call, *HASTY)

    def test_more_than_the_ranking_leads_to(self):
        for place in (AT_ONCE, HASTY):
            for ranking in ((), [(agent, kind, 1, time) for agent in range(3) for kind, time in ((0, 12), (1, 11))]):
                self.assert_word("scenes", runs, *place, ranking)
                self.assert_word("scenes", idle_rows, *place, ranking)

    def test_longer_by_six(self):
        self.assertEqual(len(scenes_slow(longer(MORE_400[0], 6), MORE_400[1], 500)), 400)
        self.assertIsNone(least_more(*MORE_400))
        self.assertEqual(len(scenes_slow(longer(MORE_401[0], 6), MORE_401[1], 500)), 401)
        self.assertEqual(len(scenes_slow(longer(MORE_401[0], 5), MORE_401[1], 500)), 206)
        self.assert_word("scenes", least_more, *MORE_401)

    def test_longer_by_two(self):
        desk, stream = MORE_BOOK
        self.assertEqual([len(scenes_slow(longer(desk, more), stream, 500)) for more in range(3)], [8, 29, 400])
        more, book, papers = least_more(desk, stream)
        self.assertEqual((more, len(papers)), (2, 2))
        self.assertTrue(book_holds(longer(desk, 2), stream, book))


class SetsTest(Raises):

    def test_exactly_three_hundred(self):
        many, sets = sets_slow(*SETS_300)
        self.assertEqual((many, len(sets)), (None, 300))
        self.assertEqual(knowing(*SETS_300), ("sets", sets))
        self.assertTrue(sets_hold(*SETS_300, sets))

    def test_one_more(self):
        many, sets = sets_slow(*SETS_301)
        self.assertEqual((many, len(sets)), (None, 301))
        self.assert_word("sets", knowing, *SETS_301)
        self.assertTrue(sets_hold(*SETS_301, sets))
        self.assertFalse(sets_hold(*SETS_301, sets[:-1]))

    def test_sets_of_shorter_courses_alone(self):
        many, sets = sets_slow(*COURSE_300)
        self.assertEqual((many, len(sets)), (13, 300))
        word, course = knowing(*COURSE_300)
        self.assertEqual((word, len(course)), ("course", 13))
        self.assertEqual(scenes_behind(*COURSE_300, course), ())

    def test_one_more_of_shorter_courses(self):
        many, sets = sets_slow(*COURSE_301)
        self.assertEqual((many, len(sets)), (9, 301))
        self.assert_word("sets", knowing, *COURSE_301)

    def test_other_functions_count_no_sets(self):
        for place in (SETS_301, COURSE_301):
            word, found = keep(*place)
            self.assertTrue((book_holds if word == "book" else paper_holds)(*place, found))
            self.assertEqual(rounds(*place) is None, word == "book")
            self.assertTrue(scenes_behind(*place, (0, 0)))


class CheckersTest(Raises):

    def test_a_book_among_too_many_scenes(self):
        # What comes in is done in the same round.
        desk = Desk(3, ((1, 12, (0, 1, 2), (), False), (1, 11, (0, 1, 2), (), False)))
        stream = Stream(((((0, 0, 1), 0), ((0, 1, 1), 0), ((), 0)),))
        self.assert_word("scenes", keep, desk, stream)
        low, high = (0, 1, 12), (1, 1, 11)
        book = [(0, tickets, tuple(enumerate(tickets))) for tickets in ((), (low, low, high), (low, high, high))]
        self.assertIs(book_holds(desk, stream, book), True)
        self.assertIs(book_holds(desk, stream, book[:2]), False)

    def test_a_paper_among_too_many_scenes(self):
        self.assertIs(paper_holds(*HASTY, [(0, (), 2)]), True)
        self.assertIs(paper_holds(*HASTY, [(0, (), 1)]), False)

    def test_sets_of_too_many_scenes(self):
        desk = Desk(3, ((1, 4, (0, 1), (), False), (2, 8, (0, 1, 2), (0,), False)))
        stream = Stream(((((0, 1, 1), 1),), (((1,), 2),), (((), 1),)))
        self.assert_word("scenes", knowing, desk, stream)
        many, sets = sets_slow(desk, stream)
        self.assertIsNone(many)
        self.assertEqual(len({scene for held in sets for scene in held}), 407)
        self.assertIs(sets_hold(desk, stream, sets), True)
        self.assertIs(sets_hold(desk, stream, sets[:-1]), False)
        self.assertIs(sets_hold(desk, stream, sets[:-1] + (sets[-1][:-1],)), False)


if __name__ == "__main__":
    unittest.main()
