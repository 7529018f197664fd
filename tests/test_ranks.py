"""Promises 8 and 34 to 37: dealing by a ranking, what comes of it, and rows that are never used."""

import random
import unittest

from promisedesk.ahead import scenes_behind
from promisedesk.desks import Desk, Stream
from promisedesk.errors import BadValue, TooMany
from promisedesk.keeping import keep, rounds
from promisedesk.ranks import deal_by, idle_rows, runs
from promisedesk.scenes import deals

from samples import CROWD, CROWD_STREAM, ODD, PLACES, Raises, as_lists, is_plain, moments_of
from slow import START, random_desk, random_stream, small_places
from slow_ranks import courses_of, deal_slow, random_ranking, run_course, runs_slow

SMALL = small_places("ranks", 150)

# Two agents, able for both kinds; a ticket of kind 1 waits for those of kind 0.
PAIR = Desk(2, ((2, 3, (0, 1), (), False), (1, 4, (0, 1), (0,), False)))
PAIR_STREAM = Stream(((((0, 1), 0), ((1,), 0), ((), 0)),))

ONE = Desk(1, ((1, 2, (0,), (), False), (2, 2, (0,), (), False)))
CALM = Stream(((((0,), 0), ((), 0)),))
BUSY = Stream(((((0, 1), 0),),))

NO_ROWS = (
    ((0, 0, 1),), ((0, 0, 1, 1, 1),), ((),), (None,), (0,), (0, 0, 1, 1), ("0,0,1,1",), ("0011",),
    ((True, 0, 1, 1),), ((0, False, 1, 1),), ((0, 0, True, 1),), ((0, 0, 1, True),),
    ((None, 0, 1, 1),), ((0, (), 1, 1),), ((0, 0, "1", 1),), ((0, 0, 1, [1]),),
    ((0, 0, 1, 1), (0, 0, 1, 1)), ([0, 0, 1, 1], (0, 0, 1, 2), (0, 0, 1, 1)), ((0, 0, 1, 1), [0, 0, 1, 1]),
    ((9, 9, 9, 9), (0, 0, 1, 1), (9, 9, 9, 9)), {(0, 0, 1, 1)}, {(0, 0, 1, 1): 0}, range(0), "",
)


def many_rows(count):
    """So many unlike rows, only the last one of which fits a ticket of ONE."""
    return [(0, 0, 5, at) for at in range(count - 1)] + [(0, 0, 1, 2)]


class DealTest(Raises):

    def test_rows_in_order(self):
        moment = (0, ((0, 1, 1), (0, 2, 3)))
        first, second = moment[1]
        self.assertEqual(deal_by(PAIR, PAIR_STREAM, ((0, 0, 1, 1), (1, 0, 2, 3)), moment), ((0, first), (1, second)))
        self.assertEqual(deal_by(PAIR, PAIR_STREAM, ((0, 0, 2, 3), (1, 0, 1, 1)), moment), ((0, second), (1, first)))
        self.assertEqual(deal_by(PAIR, PAIR_STREAM, ((1, 0, 2, 3), (0, 0, 2, 3)), moment), ((1, second),))

    def test_agents_ascend_in_the_deal(self):
        moment = (0, ((0, 1, 1), (0, 2, 3)))
        self.assertEqual(deal_by(PAIR, PAIR_STREAM, ((1, 0, 1, 1), (0, 0, 2, 3)), moment),
                         ((0, (0, 2, 3)), (1, (0, 1, 1))))

    def test_an_agent_in_two_rows(self):
        moment = (0, ((0, 1, 1), (0, 2, 3)))
        rows = ((0, 0, 2, 3), (0, 0, 1, 1), (1, 0, 2, 3), (1, 0, 1, 1))
        # Agent 0 is busy by the first row; agent 1 finds the ticket of the third one taken.
        self.assertEqual(deal_by(PAIR, PAIR_STREAM, rows, moment), ((0, (0, 2, 3)), (1, (0, 1, 1))))
        self.assertEqual(deal_by(PAIR, PAIR_STREAM, rows[:2], moment), ((0, (0, 2, 3)),))

    def test_a_held_ticket(self):
        rows = ((0, 1, 1, 4), (0, 0, 2, 3))
        self.assertEqual(deal_by(PAIR, PAIR_STREAM, rows, (0, ((0, 2, 3), (1, 1, 4)))), ((0, (0, 2, 3)),))
        self.assertEqual(deal_by(PAIR, PAIR_STREAM, rows, (0, ((1, 1, 4),))), ((0, (1, 1, 4)),))
        # Held still, although the ticket that it waits for is dealt with its last work.
        rows = ((0, 0, 1, 3), (1, 1, 1, 4))
        self.assertEqual(deal_by(PAIR, PAIR_STREAM, rows, (0, ((0, 1, 3), (1, 1, 4)))), ((0, (0, 1, 3)),))

    def test_a_ticket_open_more_than_once(self):
        trio = Desk(3, ((2, 3, (0, 1, 2), (), False),))
        rows = ((2, 0, 2, 3), (0, 0, 2, 3), (1, 0, 2, 3))
        ticket = (0, 2, 3)
        for many, deal in ((1, ((2, ticket),)), (2, ((0, ticket), (2, ticket))),
                           (3, ((0, ticket), (1, ticket), (2, ticket))), (4, tuple((at, ticket) for at in range(3)))):
            self.assertEqual(deal_by(trio, CALM, rows, (0, (ticket,) * many)), deal)
        self.assertEqual(deal_by(trio, CALM, rows, (0, ())), ())

    def test_who_is_not_able(self):
        desk = Desk(2, ((1, 2, (1,), (), False), (1, 2, (), (), False)))
        moment = (0, ((0, 1, 2), (1, 1, 2)))
        self.assertEqual(deal_by(desk, CALM, ((0, 0, 1, 2), (0, 1, 1, 2), (1, 1, 1, 2), (1, 0, 1, 2)), moment),
                         ((1, (0, 1, 2)),))

    def test_rows_that_fit_nothing(self):
        moment = (0, ((0, 1, 2), (1, 2, 2)))
        odd = ((1, 0, 1, 2), (-1, 0, 1, 2), (3, 0, 1, 2), (0, -1, 2, 2), (0, -2, 1, 2), (0, 2, 1, 2), (0, 0, 0, 2),
               (0, 0, 2, 2), (0, 0, 1, 1), (0, 0, 1, 3), (0, 0, -1, 2), (0, 0, 1, -2), (0, 10 ** 29, 1, 2),
               (10 ** 29, 0, 1, 2), (-10 ** 29, -10 ** 29, -10 ** 29, -10 ** 29), (0, 1, 1, 2))
        self.assertEqual(deal_by(ONE, BUSY, odd, moment), ())
        self.assertEqual(deal_by(ONE, BUSY, odd + ((0, 1, 2, 2), (0, 0, 1, 2)), moment), ((0, (1, 2, 2)),))
        self.assertEqual(idle_rows(ONE, CALM, odd[:1] + ((0, 0, 1, 2),) + odd[1:]), (0,) + tuple(range(2, 17)))

    def test_empty_ranking_and_empty_moment(self):
        for ranking in ((), []):
            self.assertEqual(deal_by(ONE, BUSY, ranking, (0, ((0, 1, 2),))), ())
        self.assertEqual(deal_by(ONE, BUSY, ((0, 0, 1, 2),), (0, ())), ())

    def test_two_hundred_and_two_hundred_and_one_rows(self):
        moment = (0, ((0, 1, 2),))
        self.assertEqual(deal_by(ONE, CALM, many_rows(200), moment), ((0, (0, 1, 2)),))
        self.assertEqual(runs(ONE, CALM, many_rows(200)), ("closed", (START,)))
        self.assertEqual(idle_rows(ONE, CALM, many_rows(200)), tuple(range(199)))
        for count in (201, 202, 5000):
            self.assert_at(BadValue, 3, deal_by, ONE, CALM, many_rows(count), moment)
            self.assert_at(BadValue, 3, runs, ONE, CALM, many_rows(count))
            self.assert_at(BadValue, 3, idle_rows, ONE, CALM, tuple(many_rows(count)))

    def test_moments_of_up_to_forty_tickets(self):
        full = (0, ((0, 1, 1),) * 20 + ((0, 1, 2),) * 20)
        self.assertEqual(deal_by(ONE, CALM, ((0, 0, 1, 2),), full), ((0, (0, 1, 2)),))
        self.assert_at(BadValue, 4, deal_by, ONE, CALM, ((0, 0, 1, 2),), (0, full[1] + ((0, 1, 2),)))

    def test_the_same_as_found_slowly(self):
        rng = random.Random("deals")
        for desk, stream in PLACES:
            for moment in moments_of(desk, stream, 40):
                for _ in range(8):
                    ranking = random_ranking(rng, desk)
                    deal = deal_by(desk, stream, ranking, moment)
                    self.assertEqual(deal, deal_slow(desk, stream, ranking, moment)[0], (ranking, moment))
                    self.assertIn(deal, deals(desk, stream, moment))
                    self.assertTrue(is_plain(deal))

    def test_lists_for_tuples(self):
        rows = ((1, 0, 1, 1), (0, 0, 2, 3))
        moment = (0, ((0, 1, 1), (0, 2, 3)))
        told = as_lists(rows)
        deal = deal_by(desk=PAIR, stream=PAIR_STREAM, ranking=told, moment=as_lists(moment))
        self.assertEqual(deal, deal_by(PAIR, PAIR_STREAM, rows, moment))
        self.assertTrue(is_plain(deal))
        self.assertEqual(told, as_lists(rows))
        told[0][0] = 5
        self.assertEqual(deal, ((0, (0, 2, 3)), (1, (0, 1, 1))))

    def test_errors(self):
        self.assert_wants_desk_and_stream(deal_by, (), START)
        self.assert_wants_desk_and_stream(deal_by, None, None)
        for ranking in NO_ROWS + tuple(value for value in ODD if value != ()):
            self.assert_at(BadValue, 3, deal_by, ONE, CALM, ranking, START)
            self.assert_at(BadValue, 3, deal_by, ONE, CALM, ranking, None)
        for moment in ODD + ((1, ()), (0, ((0, 1, 3),)), (0, ((0, 1, 2), (0, 1, 1))), (0, ((2, 1, 1),)), START + (0,)):
            self.assert_at(BadValue, 4, deal_by, ONE, CALM, ((0, 0, 1, 2),), moment)
        # No search, so never too many scenes.
        self.assertEqual(deal_by(CROWD, CROWD_STREAM, ((0, 0, 4, 12),), (0, ((0, 4, 12),))), ((0, (0, 4, 12)),))
        self.assertEqual(deal_by.__module__, "promisedesk.ranks")


class RunsTest(Raises):

    def test_closed(self):
        self.assertEqual(runs(ONE, CALM, ((0, 0, 1, 2),)), ("closed", (START,)))
        self.assertEqual(runs(ONE, CALM, [[0, 0, 1, 1]]), ("closed", (START, (0, ((0, 1, 1),)))))
        self.assertEqual(runs(ONE, CALM, ((0, 0, 1, 1), (0, 0, 1, 2))), ("closed", (START,)))

    def test_courses(self):
        self.assertEqual(runs(ONE, BUSY, ((0, 0, 1, 2), (0, 1, 2, 2))), ("course", (0, 0)))
        one = Desk(1, ((2, 1, (0,), (), False),))
        self.assertEqual(runs(one, Stream(((((), 0), ((0,), 0)),)), ((0, 0, 2, 1),)), ("course", (1,)))
        turns = Stream(((((), 1), ((), 0)), (((), 0), ((), 1), ((0,), 0))))
        self.assertEqual(runs(one, turns, ()), ("course", (0, 2)))

    def test_empty_ranking(self):
        for ranking in ((), []):
            self.assertEqual(runs(ONE, Stream(((((), 1),), (((), 0),))), ranking), ("closed", (START, (1, ()))))
            word, course = runs(ONE, CALM, ranking)
            self.assertEqual((word, len(course), course[0]), ("course", 2, 0))
            self.assertEqual(idle_rows(ONE, CALM, ranking), ())

    def test_states_that_are_never_reached(self):
        stream = Stream(((((), 1),), (((), 0),), (((1, 1, 1), 0),)))
        self.assertEqual(runs(ONE, stream, ()), ("closed", (START, (1, ()))))

    def test_the_scenes_of_the_ranking_alone(self):
        # Agent 1 is never dealt a ticket; one of kind 1 is put off for a round, and never longer.
        stream = Stream(((((0,), 1), ((1,), 1)), (((), 0),)))
        rows = ((0, 1, 1, 3), (0, 0, 2, 3), (0, 0, 1, 2))
        word, scenes = runs(PAIR, stream, rows)
        self.assertEqual(word, "closed")
        self.assertEqual(scenes, (START, (1, ((0, 1, 2),)), (1, ((1, 1, 3),))))
        self.assertEqual(scenes_behind(PAIR, stream, (1,)), ((1, ()), (1, ((1, 1, 3),))))

    def test_a_book_is_there_but_the_ranking_breaks_a_promise(self):
        desk = Desk(1, ((1, 1, (0,), (), True), (1, 2, (0,), (), True)))
        stream = Stream(((((1,), 1),), (((0,), 0),)))
        self.assertEqual(keep(desk, stream)[0], "book")
        good = ((0, 0, 1, 1), (0, 1, 1, 1), (0, 1, 1, 2))
        self.assertEqual(runs(desk, stream, good), ("closed", (START, (1, ()))))
        self.assertEqual(runs(desk, stream, good[1:]), ("course", (0, 0)))
        self.assertEqual(idle_rows(desk, stream, good), (1,))
        self.assertEqual(idle_rows(desk, stream, good[:2]), (1,))

    def test_the_same_as_found_slowly(self):
        rng = random.Random("runs")
        told = []
        for desk, stream, _ in SMALL:
            for _ in range(4):
                ranking = random_ranking(rng, desk)
                word, found = runs(desk, stream, ranking)
                many, scenes, used = runs_slow(desk, stream, ranking)
                told.append(word)
                if many is None:
                    self.assertEqual((word, found), ("closed", scenes))
                else:
                    self.assertEqual((word, len(found)), ("course", many))
                    self.assertEqual(run_course(desk, stream, ranking, found)[0], many)
                self.assertTrue(is_plain(found))
                idle = idle_rows(desk, stream, ranking)
                self.assertEqual(idle, tuple(at for at in range(len(ranking)) if at not in used))
                self.assertTrue(is_plain(idle))
        self.assertGreater(told.count("closed"), 100)
        self.assertGreater(told.count("course"), 100)

    def test_against_all_courses(self):
        rng = random.Random("courses")
        asked = 0
        for desk, stream, _ in SMALL:
            courses = courses_of(stream, 6)
            if len(courses) > 100:
                continue
            ranking = random_ranking(rng, desk)
            told = [run_course(desk, stream, ranking, course) for course in courses]
            broken = [many for many, _ in told if many is not None]
            word, found = runs(desk, stream, ranking)
            if broken:
                asked += min(broken) > 1
                self.assertEqual((word, len(found)), ("course", min(broken)))
            elif word == "course":
                self.assertGreater(len(found), 6)
            idle = idle_rows(desk, stream, ranking)
            self.assertFalse(set(idle) & set().union(*(used for _, used in told)))
            if len(broken) == len(told):
                used = set().union(*(used for _, used in told))
                self.assertEqual(idle, tuple(at for at in range(len(ranking)) if at not in used))
        self.assertGreater(asked, 10)

    def test_a_course_as_short_as_any(self):
        # By arc 0 first it takes longer, although it stands ahead.
        desk = Desk(1, ((1, 3, (0,), (), False), (1, 2, (0,), (), False)))
        stream = Stream(((((0,), 0), ((1,), 0)),))
        self.assertEqual(len(runs(desk, stream, ())[1]), 2)
        self.assertEqual(runs(desk, stream, ())[1][0], 1)
        self.assertEqual(len(runs(desk, stream, ((0, 1, 1, 2), (0, 1, 1, 1)))[1]), 3)

    def test_no_longer_than_the_rounds(self):
        rng = random.Random("rounds")
        for desk, stream, _ in SMALL:
            word, found = runs(desk, stream, random_ranking(rng, desk))
            many = rounds(desk, stream)
            if word == "closed":
                self.assertIsNone(many)
            elif many is not None:
                self.assertLessEqual(len(found), many)

    def test_plain_pair_and_names_of_arguments(self):
        pair = runs(desk=ONE, stream=CALM, ranking=[[0, 0, 1, 1]])
        self.assertIs(type(pair), tuple)
        self.assertTrue(is_plain(pair[1]))

    def test_errors(self):
        for call in (runs, idle_rows):
            self.assert_wants_desk_and_stream(call, ())
            self.assert_wants_desk_and_stream(call, None)
            for ranking in NO_ROWS + tuple(value for value in ODD if value != ()):
                self.assert_at(BadValue, 3, call, ONE, CALM, ranking)
                # A ranking that is none is told ahead of too many scenes.
                self.assert_at(BadValue, 3, call, CROWD, CROWD_STREAM, ranking)
            for ranking in ((), ((0, 0, 4, 12),)):
                self.assert_word("scenes", call, CROWD, CROWD_STREAM, ranking)
            self.assertEqual(call.__module__, "promisedesk.ranks")


class IdleTest(Raises):

    def test_rows(self):
        self.assertEqual(idle_rows(ONE, CALM, ((0, 0, 1, 2), (0, 0, 1, 1), (0, 1, 2, 2))), (1, 2))
        self.assertEqual(idle_rows(ONE, CALM, ((0, 0, 1, 1), (0, 0, 1, 2))), (0,))
        self.assertEqual(idle_rows(ONE, CALM, [[0, 0, 1, 1]]), ())

    def test_rows_used_only_in_the_round_in_which_a_promise_is_broken(self):
        # In the second round kind 0 is open with time 1, and agent 0 takes kind 1 instead.
        desk = Desk(1, ((1, 2, (0,), (), True), (1, 1, (0,), (), False)))
        stream = Stream(((((0,), 1),), (((1,), 2),), (((), 2),)))
        self.assertEqual(runs(desk, stream, ((0, 1, 1, 1),)), ("course", (0, 0)))
        self.assertEqual(idle_rows(desk, stream, ((0, 1, 1, 1), (0, 0, 1, 1))), (1,))

    def test_rows_used_only_behind_it(self):
        # The ticket of kind 2 comes in behind the round in which kind 0 breaks its promise.
        desk = Desk(1, ((1, 2, (), (), False), (1, 1, (0,), (), False), (1, 3, (0,), (), False)))
        stream = Stream(((((0,), 1),), (((1,), 2),), (((2,), 2),)))
        rows = ((0, 2, 1, 3), (0, 1, 1, 1), (0, 2, 1, 2))
        self.assertEqual(runs(desk, stream, rows), ("course", (0, 0)))
        self.assertEqual(idle_rows(desk, stream, rows), (0, 2))

    def test_rows_used_in_longer_courses_than_the_shortest_that_breaks_a_promise(self):
        desk = Desk(1, ((1, 1, (), (), False), (1, 2, (0,), (), False), (2, 3, (0,), (), False)))
        stream = Stream(((((0,), 0), ((1,), 1)), (((), 2),), (((2,), 2), ((), 2))))
        rows = ((0, 2, 2, 3), (0, 1, 1, 2), (0, 2, 1, 2), (0, 1, 1, 1))
        self.assertEqual(runs(desk, stream, rows), ("course", (0,)))
        # Behind arc 1 rows 0 and 2 are used, rounds after another course has broken a promise.
        self.assertEqual(idle_rows(desk, stream, rows), (3,))

    def test_an_agent_that_is_busy_uses_no_row(self):
        desk = Desk(1, ((1, 2, (0,), (), False), (1, 2, (0,), (), False)))
        stream = Stream(((((0, 1), 0), ((), 0)),))
        rows = ((0, 0, 1, 2), (0, 1, 1, 1), (0, 1, 1, 2))
        # Kind 1 has its turn in the second round alone.
        self.assertEqual(idle_rows(desk, stream, rows), (2,))

    def test_without_idle_rows_all_deals_are_the_same(self):
        rng = random.Random("idle")
        for desk, stream, _ in SMALL:
            ranking = random_ranking(rng, desk)
            idle = idle_rows(desk, stream, ranking)
            rest = [row for at, row in enumerate(ranking) if at not in idle]
            self.assertEqual(runs(desk, stream, rest), runs(desk, stream, ranking))
            self.assertEqual(idle_rows(desk, stream, rest), ())

    def test_larger_places(self):
        rng = random.Random("larger")
        told = []
        while len(told) < 60:
            desk = random_desk(rng)
            desk = Desk(desk.agents, [(work, 2 * promise, *kind) for work, promise, *kind in desk.kinds])
            stream = random_stream(rng, len(desk.kinds))
            ranking = random_ranking(rng, desk)
            try:
                word, found = runs(desk, stream, ranking)
            except TooMany:
                continue
            told.append(word)
            many, scenes, used = runs_slow(desk, stream, ranking)
            self.assertEqual(word == "closed", many is None)
            self.assertEqual(found if many is None else len(found), scenes if many is None else many)
            self.assertEqual(idle_rows(desk=desk, stream=stream, ranking=ranking),
                             tuple(at for at in range(len(ranking)) if at not in used))
        self.assertGreater(told.count("closed"), 5)
        self.assertGreater(told.count("course"), 5)


if __name__ == "__main__":
    unittest.main()
