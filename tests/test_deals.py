"""Promises 9, 12 and 18 to 21: deals, and the scenes behind them."""

import unittest

from promisedesk.desks import Desk, Stream
from promisedesk.errors import BadValue
from promisedesk.scenes import come, deals, dealt, is_scene

from samples import (DESK, DRIP, FLOW, FREE, ODD, PLACES, STREAM, STUCK, WIDE, WIDE_STREAM, Raises, as_lists,
                     behind_by_places, deals_by_places, is_plain, many, moments_of)

A, B, C = (0, 2, 4), (1, 1, 2), (2, 3, 5)

# Two agents; kind 1 waits for kind 0.
PAIR = Desk(2, ((2, 3, (0, 1), (), False), (2, 3, (0, 1), (0,), False)))
CALM = Stream(((((), 0),),))


class DealsTest(Raises):

    def test_nothing_open(self):
        self.assertEqual(deals(DESK, STREAM, (0, ())), ((),))

    def test_one_ticket(self):
        self.assertEqual(deals(DESK, STREAM, (0, (A,))), ((), ((0, A),)))
        self.assertEqual(deals(DESK, STREAM, (0, (B,))), ((), ((0, B),), ((1, B),)))
        self.assertEqual(deals(DESK, STREAM, (1, (C,))), ((), ((1, C),)))

    def test_agents_that_are_not_able(self):
        self.assertEqual(deals(STUCK, DRIP, (0, ((0, 1, 1),))), ((),))

    def test_held_tickets(self):
        self.assertEqual(deals(DESK, STREAM, (0, (A, B))), ((), ((0, A),)))
        self.assertEqual(deals(DESK, STREAM, (0, (B, C))), ((), ((0, B),), ((1, B),)))
        self.assertEqual(deals(DESK, STREAM, (0, (A, B, C))), ((), ((0, A),)))
        self.assertEqual(deals(STUCK, DRIP, (0, ((0, 1, 1), (1, 1, 1)))), ((),))
        # Kind 1 holds kind 2 though it is itself held.
        chain = Desk(1, ((1, 1, (), (), False), (1, 1, (0,), (0,), False), (1, 1, (0,), (1,), False)))
        self.assertEqual(deals(chain, CALM, (0, ((0, 1, 1), (1, 1, 1), (2, 1, 1)))), ((),))
        self.assertEqual(deals(chain, CALM, (0, ((0, 1, 1), (2, 1, 1)))), ((), ((0, (2, 1, 1)),)))

    def test_equal_tickets_that_stand_more_than_once(self):
        low = (0, 1, 1)
        self.assertEqual(deals(PAIR, CALM, (0, (low,))), ((), ((0, low),), ((1, low),)))
        twice = ((), ((0, low),), ((0, low), (1, low)), ((1, low),))
        self.assertEqual(deals(PAIR, CALM, (0, (low, low))), twice)
        self.assertEqual(deals(PAIR, CALM, (0, (low, low, low))), twice)
        trio = Desk(3, ((1, 1, (0, 1, 2), (), False),))
        self.assertEqual(len(deals(trio, CALM, (0, (low, low)))), 7)
        self.assertEqual(len(deals(trio, CALM, (0, (low, low, low)))), 8)

    def test_whole_tuple_ascending(self):
        low, high = (0, 1, 3), (0, 2, 1)
        self.assertEqual(deals(PAIR, CALM, (0, (low, high))), (
            (), ((0, low),), ((0, low), (1, high)), ((0, high),), ((0, high), (1, low)), ((1, low),), ((1, high),)))

    def test_the_same_as_found_by_places(self):
        for desk, stream in PLACES:
            for moment in moments_of(desk, stream, 60):
                found = deals(desk, stream, moment)
                self.assertEqual(found, deals_by_places(desk, moment))
                self.assertEqual(found[0], ())
                self.assertTrue(is_plain(found))

    def test_forty_tickets(self):
        tickets = many(40)
        self.assertEqual(len(deals(WIDE, WIDE_STREAM, (0, tickets))), 1 + len(set(tickets)))
        self.assert_at(BadValue, 3, deals, WIDE, WIDE_STREAM, (0, many(41)))

    def test_three_agents_and_many_tickets(self):
        tickets = tuple((1, left, time) for left in (1, 2, 3, 4) for time in range(1, 6))
        found = deals(FREE, FLOW, (0, tickets))
        self.assertEqual(len(found), 1 + 3 * 20 + 3 * 20 * 19 + 20 * 19 * 18)
        self.assertTrue(all(one < behind for one, behind in zip(found, found[1:])))

    def test_lists_and_names_of_arguments(self):
        found = deals(desk=DESK, stream=STREAM, moment=[0, [list(A)]])
        self.assertEqual(found, ((), ((0, A),)))
        self.assertTrue(is_plain(found))

    def test_no_scene(self):
        for moment in ODD + (DESK, STREAM, (2, ()), (0, ((0, 2, 1), (0, 1, 1)))):
            self.assert_at(BadValue, 3, deals, DESK, STREAM, moment)


class DealtTest(Raises):

    def test_work_becomes_less_and_time_too(self):
        self.assertEqual(dealt(DESK, STREAM, (0, (A,)), ((0, A),)), (0, ((0, 1, 3),)))
        self.assertEqual(dealt(DESK, STREAM, (1, (A, C)), ()), (1, ((0, 2, 3), (2, 3, 4))))

    def test_work_done(self):
        self.assertEqual(dealt(DESK, STREAM, (0, ((0, 1, 4),)), ((0, (0, 1, 4)),)), (0, ()))
        self.assertEqual(dealt(DESK, STREAM, (0, (B, C)), ((1, B),)), (0, ((2, 3, 4),)))

    def test_done_in_the_last_round(self):
        self.assertEqual(dealt(DESK, STREAM, (0, ((0, 1, 1),)), ((0, (0, 1, 1)),)), (0, ()))

    def test_promise_broken(self):
        self.assertIsNone(dealt(DESK, STREAM, (0, ((0, 1, 1),)), ()))
        self.assertIsNone(dealt(DESK, STREAM, (0, ((0, 2, 1),)), ((0, (0, 2, 1)),)))
        self.assertIsNone(dealt(DESK, STREAM, (0, ((0, 1, 1), (0, 1, 1))), ((0, (0, 1, 1)),)))
        self.assertIsNone(dealt(DESK, STREAM, (0, (A, (1, 1, 1))), ((0, A),)))

    def test_equal_tickets(self):
        low = (0, 2, 3)
        self.assertEqual(dealt(PAIR, CALM, (0, (low,) * 3), ((1, low),)), (0, ((0, 1, 2), (0, 2, 2), (0, 2, 2))))
        self.assertEqual(dealt(PAIR, CALM, (0, (low,) * 3), ((0, low), (1, low))),
                         (0, ((0, 1, 2), (0, 1, 2), (0, 2, 2))))

    def test_a_dealt_ticket_becomes_like_another_one(self):
        high, low = (0, 2, 3), (0, 1, 3)
        self.assertEqual(dealt(PAIR, CALM, (0, (low, high)), ((0, high), (1, low))), (0, ((0, 1, 2),)))
        self.assertEqual(dealt(PAIR, CALM, (0, (low, high)), ((0, high),)), (0, ((0, 1, 2), (0, 1, 2))))

    def test_scene_behind_is_sorted(self):
        tickets = ((0, 1, 3), (0, 2, 2))
        self.assertEqual(dealt(PAIR, CALM, (0, tickets), ((1, (0, 2, 2)),)), (0, ((0, 1, 1), (0, 1, 2))))

    def test_the_same_as_found_by_places(self):
        for desk, stream in PLACES:
            for moment in moments_of(desk, stream, 30):
                for deal in deals(desk, stream, moment)[:40]:
                    behind = dealt(desk, stream, moment, deal)
                    self.assertEqual(behind, behind_by_places(moment, deal))
                    if behind is not None:
                        self.assertTrue(is_scene(desk, stream, behind))
                        self.assertTrue(is_plain(behind))
                    self.assertEqual(behind, dealt(desk, stream, as_lists(moment), as_lists(deal)))

    def test_lists_and_names_of_arguments(self):
        moment, deal = [0, [list(A)]], [[0, list(A)]]
        behind = dealt(desk=DESK, stream=STREAM, moment=moment, deal=deal)
        self.assertEqual(behind, (0, ((0, 1, 3),)))
        self.assertEqual((moment, deal), ([0, [list(A)]], [[0, list(A)]]))

    def test_no_scene(self):
        for moment in ODD + (DESK, STREAM, (2, ()), (0, ((0, 2, 1), (0, 1, 1)))):
            self.assert_at(BadValue, 3, dealt, DESK, STREAM, moment, ())
            self.assert_at(BadValue, 3, dealt, DESK, STREAM, moment, None)
        self.assert_at(BadValue, 3, dealt, WIDE, WIDE_STREAM, (0, many(41)), ())
        dealt(WIDE, WIDE_STREAM, (0, many(40)), ())

    def test_odd_deals(self):
        for deal in ODD + (DESK, STREAM, 0, (0, A), A, ((0,),), ((0, A, 0),), ((0, A), None), "a"):
            self.assert_at(BadValue, 4, dealt, DESK, STREAM, (0, (A,)), deal)

    def test_odd_parts_of_a_deal(self):
        for odd in ODD + ((), [0]):
            for pair in (odd, (odd, A), (0, odd), (0, (odd, 2, 4)), (0, (0, odd, 4)), (0, (0, 2, odd))):
                self.assert_at(BadValue, 4, dealt, DESK, STREAM, (0, (A,)), (pair,))

    def test_true_is_no_integer(self):
        low = (0, 1, 1)
        for deal in (((False, low),), ((0, (False, 1, 1)),), ((0, (0, True, 1)),), ((0, (0, 1, True)),)):
            self.assert_at(BadValue, 4, dealt, DESK, STREAM, (0, (low,)), deal)

    def test_agents_that_are_not_ascending(self):
        low = (0, 1, 1)
        moment = (0, (low, low, low))
        self.assertEqual(dealt(PAIR, CALM, (0, (low, low)), ((0, low), (1, low))), (0, ()))
        self.assert_at(BadValue, 4, dealt, PAIR, CALM, moment, ((1, low), (0, low)))
        self.assert_at(BadValue, 4, dealt, PAIR, CALM, moment, ((0, low), (0, low)))
        self.assert_at(BadValue, 4, dealt, PAIR, CALM, moment, ((0, low), (1, low), (1, low)))

    def test_no_agent_of_the_desk(self):
        low = (0, 1, 1)
        for agent in (2, -1, 10 ** 29):
            self.assert_at(BadValue, 4, dealt, PAIR, CALM, (0, (low,)), ((agent, low),))

    def test_agent_that_is_not_able(self):
        self.assert_at(BadValue, 4, dealt, DESK, STREAM, (0, (A,)), ((1, A),))
        self.assert_at(BadValue, 4, dealt, DESK, STREAM, (0, (C,)), ((0, C),))

    def test_ticket_that_is_not_open(self):
        for ticket in ((0, 1, 4), (0, 2, 3), B, (0, 3, 4), (3, 1, 1)):
            self.assert_at(BadValue, 4, dealt, DESK, STREAM, (0, (A,)), ((0, ticket),))
        self.assert_at(BadValue, 4, dealt, DESK, STREAM, (0, ()), ((0, A),))

    def test_held_ticket(self):
        self.assert_at(BadValue, 4, dealt, DESK, STREAM, (0, (A, B)), ((0, B),))
        self.assert_at(BadValue, 4, dealt, DESK, STREAM, (0, (A, B)), ((0, A), (1, B)))
        self.assert_at(BadValue, 4, dealt, DESK, STREAM, (0, (B, C)), ((0, B), (1, C)))

    def test_ticket_that_stands_more_often_than_it_is_open(self):
        low, high = (0, 1, 1), (0, 2, 3)
        self.assert_at(BadValue, 4, dealt, PAIR, CALM, (0, (low,)), ((0, low), (1, low)))
        self.assert_at(BadValue, 4, dealt, PAIR, CALM, (0, (low, high)), ((0, high), (1, high)))

    def test_exactly_the_deals_are_taken(self):
        pairs = [(agent, ticket) for agent in (0, 1) for ticket in (A, B, C, (0, 1, 1))]
        asked = [(), *((one,) for one in pairs), *((one, two) for one in pairs for two in pairs)]
        for tickets in ((), (A,), (B,), (A, B), (B, B), (C,), ((0, 1, 1), A), (A, A), (C, C)):
            found = deals(DESK, STREAM, (0, tickets))
            for deal in asked:
                if deal in found:
                    dealt(DESK, STREAM, (0, tickets), deal)
                else:
                    self.assert_at(BadValue, 4, dealt, DESK, STREAM, (0, tickets), deal)

    def test_rounds_in_a_row(self):
        scene = (0, ())
        for arc, deal, behind in (
                (0, ((0, A),), (1, ((0, 1, 3), (1, 1, 1)))),
                (1, ((0, (0, 1, 3)),), None)):
            moment = come(DESK, STREAM, scene, arc)
            scene = dealt(DESK, STREAM, moment, deal)
            self.assertEqual(scene, behind)


if __name__ == "__main__":
    unittest.main()
