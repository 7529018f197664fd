"""Promises 12 and 15: streams, and whether they fit a desk."""

import unittest
from unittest import mock

from promisedesk.desks import Desk, Stream
from promisedesk.errors import BadState, BadValue
from promisedesk.scenes import come, deals, dealt, is_scene

from samples import DESK, DRIP, FLOW, FREE, KIND, ODD, STREAM, STUCK, Raises, as_lists, is_plain

STATE = (((), 0),)


class StreamTest(Raises):

    def test_states(self):
        states = ((((0, 1), 1), ((), 0)), (((2, 2, 2), 0),))
        stream = Stream(states)
        self.assertEqual(stream.states, states)
        self.assertEqual(Stream(states=states), stream)
        self.assertIsInstance(vars(Stream)["states"], property)

    def test_len(self):
        for many in range(1, 9):
            self.assertEqual(len(Stream((STATE,) * many)), many)
        self.assertIn("__len__", vars(Stream))

    def test_number_of_states(self):
        for states in ((), [], (STATE,) * 9, 0, 1, None, True, "abc", {0: STATE}, DESK, STREAM):
            self.assert_at(BadValue, 1, Stream, states)

    def test_odd_states_raise_what_is_told(self):
        for states in ODD:
            if isinstance(states, (list, tuple)) and 1 <= len(states) <= 8:
                self.assert_at(BadState, 0, Stream, states)
            else:
                self.assert_at(BadValue, 1, Stream, states)

    def test_number_of_arcs(self):
        for many in (1, 2, 3, 4):
            self.assertEqual(len(Stream((STATE * many,)).states[0]), many)
        for state in ((), [], STATE * 5, None, 0, "a", {}):
            self.assert_at(BadState, 0, Stream, (state,))
            self.assert_at(BadState, 1, Stream, (STATE, state))

    def test_arc(self):
        for arc in ODD + ((), ((),), ((), 0, 0), "ab", 0, (0, ())):
            self.assert_at(BadState, 0, Stream, ((arc,),))
            self.assert_at(BadState, 0, Stream, ((((), 0), arc),))
            self.assert_at(BadState, 2, Stream, (STATE, STATE, (((), 0), arc)))

    def test_kinds(self):
        for kinds in ((), (0,), (2,), (0, 0), (0, 0, 0), (0, 1, 2), (1, 1, 2), (2, 2, 2)):
            self.assertEqual(Stream((((kinds, 0),),)).states[0][0][0], kinds)
        for kinds in ((3,), (-1,), (1, 0), (0, 2, 1), (0, 0, 0, 0), (True,), (0, True), 0, "0", "", None, (None,)):
            self.assert_at(BadState, 0, Stream, (((kinds, 0),),))
        for kinds in ODD:
            self.assert_at(BadState, 0, Stream, (((kinds, 0),),))

    def test_next(self):
        for following in (0, 1, 2):
            self.assertEqual(Stream(((((), following),), STATE, STATE)).states[0][0][1], following)
        for following in (3, -1, True, False, None, "0", (0,), [0], 10 ** 29) + ODD:
            self.assert_at(BadState, 0, Stream, ((((), following),), STATE, STATE))
        self.assert_at(BadState, 0, Stream, ((((), 1),),))
        self.assertEqual(len(Stream(((((), 7),),) + (STATE,) * 7)), 8)

    def test_first_wrong_state_is_named(self):
        wrong = (((3,), 0),)
        self.assert_at(BadState, 0, Stream, (wrong, wrong))
        self.assert_at(BadState, 1, Stream, (STATE, wrong, wrong))
        self.assert_at(BadState, 7, Stream, (STATE,) * 7 + (wrong,))
        self.assert_at(BadValue, 1, Stream, (STATE,) * 8 + (wrong,))

    def test_lists_for_tuples(self):
        stream = Stream([[[[0, 1], 1], ([], 0)], ([(2,), 0],)])
        self.assertEqual(stream.states, ((((0, 1), 1), ((), 0)), (((2,), 0),)))
        self.assertTrue(is_plain(stream.states))

    def test_later_changes_have_no_effect(self):
        kinds = [0, 1]
        arc = [kinds, 0]
        state = [arc]
        states = [state]
        stream = Stream(states)
        kinds.append(2)
        arc[1] = 5
        state.append(arc)
        states.append(state)
        self.assertEqual(stream.states, ((((0, 1), 0),),))

    def test_passed_lists_are_not_changed(self):
        states = [[[[0, 1], 1], [[], 0]], [[[2], 0]]]
        Stream(states)
        self.assertEqual(states, [[[[0, 1], 1], [[], 0]], [[[2], 0]]])

    def test_equality(self):
        self.assertTrue(Stream([[[[0], 0]]]) == Stream(((((0,), 0),),)))
        self.assertFalse(Stream([[[[0], 0]]]) != Stream(((((0,), 0),),)))
        for other in (Stream(((((1,), 0),),)), Stream((STATE,)), Stream(((((0,), 0),), STATE))):
            self.assertFalse(Stream(((((0,), 0),),)) == other)
            self.assertTrue(Stream(((((0,), 0),),)) != other)

    def test_equals_nothing_else(self):
        stream = Stream((STATE,))
        for other in (1, None, (STATE,), [[[[], 0]]], stream.states, "stream", DESK, mock.ANY):
            self.assertIs(stream.__eq__(other), False)
            self.assertTrue(stream != other)


class FitTest(Raises):

    calls = ((is_scene, ((0, ()),)), (come, ((0, ()), 0)), (deals, ((0, ()),)), (dealt, ((0, ()), ())))

    def test_no_desk(self):
        for call, told in self.calls:
            for value in ODD + (STREAM, (), (1, DESK.kinds), as_lists(DESK.kinds)):
                self.assert_at(BadValue, 1, call, value, STREAM, *told)
                self.assert_at(BadValue, 1, call, value, None, *told)

    def test_no_stream(self):
        for call, told in self.calls:
            for value in ODD + (DESK, (), STREAM.states, as_lists(STREAM.states)):
                self.assert_at(BadValue, 2, call, DESK, value, *told)

    def test_stream_that_does_not_fit(self):
        one, two = Desk(1, (KIND,)), Desk(1, (KIND, KIND))
        streams = (Stream(((((0, 0), 0),),)), Stream(((((0, 1), 0),),)), Stream((STATE, (((), 0), ((2,), 0)))))
        for call, told in self.calls:
            for desk, fitting in ((one, 1), (two, 2), (DESK, 3)):
                for number, stream in enumerate(streams):
                    if number < fitting:
                        call(desk, stream, *told)
                    else:
                        self.assert_at(BadValue, 2, call, desk, stream, *told)

    def test_ahead_of_further_errors(self):
        for call, told in self.calls:
            self.assert_at(BadValue, 1, call, STREAM, DESK, *["x" for _ in told])
            self.assert_at(BadValue, 2, call, STUCK, STREAM, *["x" for _ in told])

    def test_all_that_fit(self):
        for call, told in self.calls:
            for desk, stream in ((DESK, STREAM), (FREE, FLOW), (STUCK, DRIP), (DESK, DRIP), (FREE, STREAM)):
                call(desk, stream, *told)


if __name__ == "__main__":
    unittest.main()
