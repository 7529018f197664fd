"""Promises 9, 12, 16 and 17: scenes, and what comes in."""

import unittest

from promisedesk.desks import Stream
from promisedesk.errors import BadValue
from promisedesk.scenes import come, deals, dealt, is_scene

from samples import (DESK, FLOW, FREE, ODD, PLACES, STREAM, WIDE, WIDE_STREAM, Raises, as_lists, is_plain, many,
                     moments_of)


class IsSceneTest(Raises):

    def test_first_scene(self):
        for desk, stream in PLACES:
            self.assertIs(is_scene(desk, stream, (0, ())), True)

    def test_scenes_that_come_about(self):
        for desk, stream in PLACES:
            for moment in moments_of(desk, stream, 40):
                self.assertIs(is_scene(desk, stream, moment), True)
                self.assertIs(is_scene(desk, stream, as_lists(moment)), True)
                self.assertIs(is_scene(desk, stream, list(moment)), True)

    def test_scenes_that_do_not_come_about(self):
        for value in ((1, ()), (0, ((2, 3, 1),)), (1, ((0, 2, 1), (0, 2, 1))), (0, ((1, 1, 2),) * 40)):
            self.assertIs(is_scene(DESK, STREAM, value), True)

    def test_names_of_arguments(self):
        self.assertIs(is_scene(desk=DESK, stream=STREAM, value=(0, ())), True)

    def test_odd_values(self):
        for value in ODD + (DESK, STREAM, (), [], (0, ((0, 1, 1),), ()), {0: ()}, 0):
            self.assertIs(is_scene(DESK, STREAM, value), False)

    def test_state(self):
        for state in (0, 1):
            self.assertIs(is_scene(DESK, STREAM, (state, ())), True)
        for state in (2, -1, (0,), [0], [], (), DESK) + ODD:
            self.assertIs(is_scene(DESK, STREAM, (state, ())), False)

    def test_tickets(self):
        for tickets in ODD + (0, 1, DESK, (0, 1, 1), ((0, 1),), ((0, 1, 1, 1),), ("011",), ((0, 1, 1), None)):
            self.assertIs(is_scene(DESK, STREAM, (0, tickets)), False)

    def test_odd_parts_of_a_ticket(self):
        for odd in ODD + ((), [1]):
            for ticket in ((odd, 1, 1), (0, odd, 1), (0, 1, odd), odd):
                self.assertIs(is_scene(DESK, STREAM, (0, (ticket,))), False)

    def test_kind_of_a_ticket(self):
        for kind in (0, 1, 2):
            self.assertIs(is_scene(DESK, STREAM, (0, ((kind, 1, 1),))), True)
        for kind in (3, -1, True, False):
            self.assertIs(is_scene(DESK, STREAM, (0, ((kind, 1, 1),))), False)
        # A kind of the desk that never comes in the stream is a kind as well.
        self.assertIs(is_scene(DESK, Stream(((((), 0),),)), (0, ((2, 1, 1),))), True)

    def test_left_and_time_at_both_limits(self):
        for kind, work, promise in ((0, 2, 4), (1, 1, 2), (2, 3, 5)):
            for left, time in ((1, 1), (work, promise), (1, promise), (work, 1)):
                self.assertIs(is_scene(DESK, STREAM, (0, ((kind, left, time),))), True)
            for left, time in ((0, 1), (work + 1, 1), (1, 0), (1, promise + 1), (-1, 1), (1, -1)):
                self.assertIs(is_scene(DESK, STREAM, (0, ((kind, left, time),))), False)

    def test_true_is_no_integer(self):
        for value in ((False, ()), (0, ((False, 1, 1),)), (0, ((0, True, 1),)), (0, ((0, 1, True),))):
            self.assertIs(is_scene(DESK, STREAM, value), False)

    def test_rising(self):
        low, high = (0, 1, 2), (0, 2, 1)
        self.assertIs(is_scene(DESK, STREAM, (0, (low, high))), True)
        self.assertIs(is_scene(DESK, STREAM, (0, (low, low, high, high))), True)
        self.assertIs(is_scene(DESK, STREAM, (0, (high, low))), False)
        self.assertIs(is_scene(DESK, STREAM, (0, (low, high, low))), False)
        self.assertIs(is_scene(DESK, STREAM, (0, ((0, 1, 2), (0, 1, 1)))), False)
        self.assertIs(is_scene(DESK, STREAM, (0, ((1, 1, 1), (0, 2, 4)))), False)
        self.assertIs(is_scene(DESK, STREAM, (0, [[0, 1, 2], (0, 1, 3)])), True)
        self.assertIs(is_scene(DESK, STREAM, (0, [(0, 1, 3), [0, 1, 2]])), False)

    def test_forty_tickets(self):
        self.assertIs(is_scene(WIDE, WIDE_STREAM, (0, many(40))), True)
        self.assertIs(is_scene(WIDE, WIDE_STREAM, (0, many(41))), False)
        self.assertIs(is_scene(WIDE, WIDE_STREAM, (0, ((0, 4, 12),) * 40)), True)
        self.assertIs(is_scene(WIDE, WIDE_STREAM, [0, [[0, 4, 12]] * 41]), False)


class ComeTest(Raises):

    def test_nothing_comes(self):
        self.assertEqual(come(DESK, STREAM, (0, ((0, 1, 1),)), 1), (0, ((0, 1, 1),)))

    def test_new_tickets_and_next_state(self):
        self.assertEqual(come(DESK, STREAM, (0, ()), 0), (1, ((0, 2, 4), (1, 1, 2))))
        self.assertEqual(come(DESK, STREAM, (1, ()), 0), (0, ((2, 3, 5), (2, 3, 5))))
        self.assertEqual(come(DESK, STREAM, (0, ()), 2), (0, ((0, 2, 4),) * 3))

    def test_sorted_among_the_open_ones(self):
        moment = come(DESK, STREAM, (1, ((0, 1, 1), (2, 1, 1), (2, 3, 5))), 0)
        self.assertEqual(moment, (0, ((0, 1, 1), (2, 1, 1), (2, 3, 5), (2, 3, 5), (2, 3, 5))))
        moment = come(DESK, STREAM, (0, ((0, 2, 3), (1, 1, 1))), 2)
        self.assertEqual(moment, (0, ((0, 2, 3), (0, 2, 4), (0, 2, 4), (0, 2, 4), (1, 1, 1))))

    def test_a_kind_that_joins_an_open_ticket(self):
        self.assertEqual(come(DESK, STREAM, (1, ((1, 1, 1),)), 1), (1, ((1, 1, 1),)))
        self.assertEqual(come(DESK, STREAM, (1, ((1, 1, 1), (1, 1, 1))), 1), (1, ((1, 1, 1), (1, 1, 1))))

    def test_a_kind_that_joins_without_an_open_ticket(self):
        self.assertEqual(come(DESK, STREAM, (1, ()), 1), (1, ((1, 1, 2),)))
        self.assertEqual(come(DESK, STREAM, (1, ((0, 2, 4), (2, 1, 1))), 1), (1, ((0, 2, 4), (1, 1, 2), (2, 1, 1))))

    def test_joins_what_came_in_just_now(self):
        self.assertEqual(come(DESK, STREAM, (0, ()), 3), (1, ((1, 1, 2), (2, 3, 5))))
        self.assertEqual(come(WIDE, WIDE_STREAM, (0, ()), 1), (0, ((1, 4, 12),)))
        self.assertEqual(come(FREE, FLOW, (0, ()), 0), (0, ((0, 1, 12), (1, 4, 12))))

    def test_a_kind_apart_is_not_joined(self):
        self.assertEqual(come(DESK, STREAM, (0, ((0, 2, 4),)), 2), (0, ((0, 2, 4),) * 4))

    def test_lists_and_names_of_arguments(self):
        moment = come(desk=DESK, stream=STREAM, scene=[0, [[0, 1, 1]]], arc=0)
        self.assertEqual(moment, (1, ((0, 1, 1), (0, 2, 4), (1, 1, 2))))
        self.assertTrue(is_plain(moment))
        self.assertTrue(is_plain(come(DESK, STREAM, [0, [[0, 1, 1]]], 1)))

    def test_passed_lists_are_not_changed(self):
        scene = [0, [[0, 1, 1], [2, 1, 1]]]
        moment = come(DESK, STREAM, scene, 0)
        self.assertEqual(scene, [0, [[0, 1, 1], [2, 1, 1]]])
        scene[1][0][1] = 2
        self.assertEqual(moment, (1, ((0, 1, 1), (0, 2, 4), (1, 1, 2), (2, 1, 1))))

    def test_thirty_seven_and_thirty_eight_tickets(self):
        moment = come(WIDE, WIDE_STREAM, (0, many(37)), 0)
        self.assertEqual(moment, (0, tuple(sorted(many(37) + ((0, 4, 12),) * 3))))
        self.assertEqual(len(moment[1]), 40)
        self.assert_at(BadValue, 3, come, WIDE, WIDE_STREAM, (0, many(38)), 0)
        self.assert_at(BadValue, 3, come, WIDE, WIDE_STREAM, (0, many(38)), 2)
        self.assert_at(BadValue, 3, come, WIDE, WIDE_STREAM, (0, many(40)), 2)

    def test_no_scene(self):
        for scene in ODD + (DESK, STREAM, (2, ()), (0, ((0, 2, 1), (0, 1, 1)))):
            self.assert_at(BadValue, 3, come, DESK, STREAM, scene, 0)
            self.assert_at(BadValue, 3, come, DESK, STREAM, scene, None)

    def test_no_number_of_an_arc(self):
        for arc in range(4):
            come(DESK, STREAM, (0, ()), arc)
        for arc in (0, 1):
            come(DESK, STREAM, (1, ()), arc)
        for arc in (4, -1, (), (0,), DESK, STREAM) + ODD:
            self.assert_at(BadValue, 4, come, DESK, STREAM, (0, ()), arc)
        for arc in (2, 3, 4, -1, True, False):
            self.assert_at(BadValue, 4, come, DESK, STREAM, (1, ()), arc)

    def test_moments_are_scenes(self):
        for desk, stream in PLACES:
            for state, tickets in moments_of(desk, stream, 40):
                for arc, (kinds, following) in enumerate(stream.states[state]):
                    moment = come(desk, stream, (state, tickets), arc)
                    self.assertEqual(moment[0], following)
                    self.assertTrue(is_scene(desk, stream, moment))
                    self.assertTrue(is_plain(moment))
                    apart = [kind for kind in kinds if not desk.kinds[kind][4]]
                    for kind in range(len(desk.kinds)):
                        had = [ticket[0] for ticket in tickets].count(kind)
                        has = [ticket[0] for ticket in moment[1]].count(kind)
                        joined = max(had, 1 if kind in kinds else 0)
                        self.assertEqual(has, joined if desk.kinds[kind][4] else had + apart.count(kind))


class PlaceTest(unittest.TestCase):

    def test_defined_in_scenes(self):
        for made in (is_scene, come, deals, dealt):
            self.assertEqual(made.__module__, "promisedesk.scenes")


if __name__ == "__main__":
    unittest.main()
