"""Promises 5, 10 and 28 to 30: the sets behind courses, and what can be kept by a desk that knows them."""

import random
import unittest
from itertools import product

from promisedesk.ahead import knowing, scenes_behind
from promisedesk.checking import sets_hold
from promisedesk.desks import Desk, Stream
from promisedesk.errors import BadValue
from promisedesk.keeping import keep, rounds

from samples import CROWD, CROWD_STREAM, DRIP, ODD, STUCK, Raises, is_plain
from slow import START, course_set, sets_hold_slow, sets_slow, small_places

PLACES = small_places("ahead", 120)

# One agent; a ticket is done at once or in the next round. Arc 0 brings it, arc 1 nothing.
DESK = Desk(1, ((1, 2, (0,), (), False),))
STREAM = Stream(((((0,), 0), ((), 0)),))
LATE = (0, ((0, 1, 1),))

# State 0 has two arcs, state 1 one, state 2 three.
TURNS = Stream(((((0,), 1), ((), 2)), (((), 2),), (((), 0), ((0,), 2), ((), 1))))


def random_course(rng, stream, many):
    state, course = 0, []
    for _ in range(many):
        course.append(rng.randrange(len(stream.states[state])))
        state = stream.states[state][course[-1]][1]
    return course


def courses_of(stream, many):
    """All courses of so many arcs."""
    found = [((), 0)]
    for _ in range(many):
        found = [(course + (arc,), following) for course, state in found
                 for arc, (_, following) in enumerate(stream.states[state])]
    return [course for course, _ in found]


class BehindTest(Raises):

    def test_empty_course(self):
        for course in ((), []):
            self.assertEqual(scenes_behind(DESK, STREAM, course), (START,))
            self.assertEqual(scenes_behind(STUCK, DRIP, course), (START,))

    def test_courses(self):
        self.assertEqual(scenes_behind(DESK, STREAM, (0,)), (START, LATE))
        self.assertEqual(scenes_behind(DESK, STREAM, (1,)), (START,))
        self.assertEqual(scenes_behind(DESK, STREAM, (0, 0)), (START, LATE))
        self.assertEqual(scenes_behind(DESK, STREAM, (0, 1)), (START,))
        self.assertEqual(scenes_behind(DESK, TURNS, (0,)), ((1, ()), (1, LATE[1])))
        self.assertEqual(scenes_behind(DESK, TURNS, [1, 2]), ((1, ()),))

    def test_courses_that_can_not_be_kept(self):
        self.assertEqual(scenes_behind(STUCK, DRIP, (0, 0)), ())
        self.assertEqual(scenes_behind(STUCK, DRIP, (0, 2, 2)), ())
        # The course is gone through to its end although nothing lies behind it.
        self.assertEqual(scenes_behind(STUCK, DRIP, (0,) * 300), ())

    def test_three_hundred_and_three_hundred_and_one_arcs(self):
        for arc in (0, 1):
            self.assertEqual(scenes_behind(DESK, STREAM, (arc,) * 300)[0], START)
            self.assert_at(BadValue, 3, scenes_behind, DESK, STREAM, (arc,) * 301)
            self.assert_at(BadValue, 3, scenes_behind, DESK, STREAM, [arc] * 302)
        self.assertEqual(scenes_behind(DESK, STREAM, [0] * 299 + [1]), (START,))

    def test_the_same_as_found_slowly(self):
        rng = random.Random("behind")
        for desk, stream, _ in PLACES:
            for many in (1, 2, 3, 5, 8):
                course = random_course(rng, stream, many)
                found = scenes_behind(desk, stream, course)
                self.assertEqual(found, course_set(desk, stream, course))
                self.assertTrue(is_plain(found))

    def test_arcs_of_the_states_they_stand_at(self):
        for course in ((0, 0), (1, 2), (1, 2, 0, 1, 1, 1), (0, 0, 2, 0, 0, 1, 0, 1)):
            self.assertEqual(scenes_behind(DESK, TURNS, course), course_set(DESK, TURNS, course))
        for course in ((2,), (0, 1), (0, 2), (1, 3), (1, 2, 1), (1, 0, 2), (0, 0, 2, 1), (-1,), (1, -1)):
            self.assert_at(BadValue, 3, scenes_behind, DESK, TURNS, course)

    def test_exactly_the_courses(self):
        for many in (1, 2, 3):
            told = courses_of(TURNS, many)
            for course in product(range(4), repeat=many):
                if course in told:
                    scenes_behind(DESK, TURNS, course)
                else:
                    self.assert_at(BadValue, 3, scenes_behind, DESK, TURNS, course)

    def test_wrong_arcs_behind_what_can_not_be_kept(self):
        self.assert_at(BadValue, 3, scenes_behind, STUCK, DRIP, (0, 0, 0, 3))

    def test_odd_courses(self):
        for course in ODD + (DESK, STREAM, 0, {0: 1}, {0, 1}, "01"):
            self.assert_at(BadValue, 3, scenes_behind, DESK, STREAM, course)
        for odd in ODD + ((), [0], DESK):
            for course in ((odd,), (0, odd), (odd, 0), (0, 1, odd, 1)):
                self.assert_at(BadValue, 3, scenes_behind, DESK, STREAM, course)

    def test_lists_are_not_changed(self):
        course = [0, 1, 0]
        self.assertEqual(scenes_behind(desk=DESK, stream=STREAM, course=course), (START, LATE))
        self.assertEqual(course, [0, 1, 0])

    def test_errors(self):
        for course in ((0,), (), None):
            self.assert_wants_desk_and_stream(scenes_behind, course)
        # A course that is none is told ahead of too many scenes.
        for course in ((3,), None, (0,) * 301, 0):
            self.assert_at(BadValue, 3, scenes_behind, CROWD, CROWD_STREAM, course)
        for course in ((), (0,), (1,) * 300):
            self.assert_word("scenes", scenes_behind, CROWD, CROWD_STREAM, course)
        self.assertEqual(scenes_behind.__module__, "promisedesk.ahead")


class KnowingTest(Raises):

    def test_what_the_document_shows(self):
        desk = Desk(1, ((1, 2, (0,), (), False), (2, 2, (0,), (), False)))
        self.assertEqual(knowing(desk, Stream(((((0,), 0), ((), 0)),)))[0], "sets")

    def test_sets(self):
        self.assertEqual(knowing(DESK, STREAM), ("sets", ((START,), (START, LATE))))
        self.assertEqual(knowing(DESK, Stream(((((), 0),),))), ("sets", ((START,),)))
        self.assertEqual(knowing(DESK, Stream(((((), 1),), (((), 1),), (((0, 0, 0), 0),)))),
                         ("sets", ((START,), ((1, ()),))))

    def test_courses(self):
        self.assertEqual(knowing(STUCK, Stream(((((1,), 0), ((), 0), ((0,), 0)),)))[0], "course")
        self.assertEqual(knowing(STUCK, Stream(((((1,), 0), ((), 0)),)))[0], "sets")
        one = Desk(1, ((2, 1, (0,), (), False),))
        self.assertEqual(knowing(one, Stream(((((), 0), ((0,), 0)),))), ("course", (1,)))
        self.assertEqual(knowing(one, Stream(((((), 1), ((), 0)), (((), 0), ((), 1), ((0,), 0))))), ("course", (0, 2)))

    def test_the_same_as_found_slowly(self):
        told = []
        for desk, stream, _ in PLACES:
            word, found = knowing(desk, stream)
            told.append(word)
            many, sets = sets_slow(desk, stream)
            if many is None:
                self.assertEqual((word, found), ("sets", sets))
                self.assertIs(sets_hold(desk, stream, found), True)
                self.assertTrue(sets_hold_slow(desk, stream, found))
            else:
                self.assertEqual((word, len(found)), ("course", many))
                self.assertEqual(course_set(desk, stream, found), ())
                self.assertEqual(scenes_behind(desk, stream, found), ())
                self.assertNotEqual(scenes_behind(desk, stream, found[:-1]), ())
            self.assertTrue(is_plain(found))
        self.assertGreater(told.count("sets"), 20)
        self.assertGreater(told.count("course"), 20)

    def test_a_course_as_short_as_any(self):
        asked = 0
        for desk, stream, _ in PLACES:
            word, found = knowing(desk, stream)
            if word == "course" and 1 < len(found) < 5:
                asked += 1
                for course in courses_of(stream, len(found) - 1):
                    self.assertNotEqual(scenes_behind(desk, stream, course), ())
        self.assertGreater(asked, 10)

    def test_what_can_be_kept_without_knowing(self):
        for desk, stream, _ in PLACES:
            word, found = knowing(desk, stream)
            if keep(desk, stream)[0] == "book":
                self.assertEqual(word, "sets")
            if word == "course":
                self.assertLessEqual(rounds(desk, stream), len(found))

    def test_what_can_be_kept_by_knowing_alone(self):
        desk = Desk(1, ((1, 2, (0,), (), True), (2, 3, (0,), (), True)))
        stream = Stream(((((1,), 0), ((0,), 0), ((), 0)),))
        self.assertEqual(keep(desk, stream)[0], "paper")
        self.assertEqual(knowing(desk, stream), ("sets", sets_slow(desk, stream)[1]))

    def test_a_course_longer_than_the_rounds(self):
        desk = Desk(1, ((1, 3, (0,), (), False), (1, 4, (0,), (), False), (1, 4, (0,), (1,), True)))
        stream = Stream(((((1,), 0), ((0, 2), 0)),))
        self.assertEqual(rounds(desk, stream), 6)
        word, found = knowing(desk, stream)
        self.assertEqual((word, len(found)), ("course", sets_slow(desk, stream)[0]))
        self.assertEqual(len(found), 8)

    def test_plain_pair_and_names_of_arguments(self):
        pair = knowing(stream=STREAM, desk=DESK)
        self.assertIs(type(pair), tuple)
        self.assertEqual(len(pair), 2)
        self.assertTrue(is_plain(pair[1]))

    def test_errors(self):
        self.assert_wants_desk_and_stream(knowing)
        self.assert_word("scenes", knowing, CROWD, CROWD_STREAM)
        self.assertEqual(knowing.__module__, "promisedesk.ahead")


if __name__ == "__main__":
    unittest.main()
