"""Promises 5, 12 and 31: which sets hold."""

import random
import unittest

from promisedesk.ahead import knowing
from promisedesk.checking import sets_hold
from promisedesk.desks import Desk, Stream
from promisedesk.scenes import is_scene

from changes import cut, replaced, some
from samples import ODD, Raises, as_lists
from slow import START, course_set, set_slow, sets_hold_slow, small_places

PLACES = small_places("sets", 120, 40)

# One agent; a ticket is done at once or in the next round. One arc brings it, the other one nothing.
DESK = Desk(1, ((1, 2, (0,), (), False),))
STREAM = Stream(((((0,), 0), ((), 0)),))
LATE = (0, ((0, 1, 1),))
SETS = ((START,), (START, LATE))
ALONE = (LATE,)

# Arc 0 of state 0 leads to state 1.
TWO = Stream(((((0,), 1), ((), 0)), (((), 0),)))


class SetsTest(Raises):

    def assert_holds(self, truth, value, desk=DESK, stream=STREAM):
        self.assertIs(sets_hold(desk, stream, value), truth, value)
        self.assertIs(sets_hold(desk, stream, as_lists(value)), truth, value)

    def test_sets_that_hold(self):
        self.assert_holds(True, SETS)
        self.assert_holds(True, (SETS[0],), DESK, Stream(((((), 0),),)))
        self.assert_holds(True, (SETS[0], ((1, ()), (1, LATE[1]))), DESK, TWO)

    def test_each_set_of_a_course(self):
        self.assert_holds(False, SETS[:1])
        self.assert_holds(False, SETS[1:])
        self.assert_holds(False, (SETS[0],), DESK, TWO)
        self.assert_holds(False, (((1, ()), (1, LATE[1])),), DESK, TWO)

    def test_no_sets(self):
        for value in ((), []):
            self.assertIs(sets_hold(DESK, STREAM, value), False)

    def test_an_empty_set(self):
        self.assert_holds(False, ((),))
        self.assert_holds(False, ((),) + SETS)
        # Here no deal keeps the promise, so the set behind the arc is empty.
        hard = Desk(1, ((2, 1, (0,), (), False),))
        self.assert_holds(False, (SETS[0],), hard)
        self.assert_holds(False, ((), SETS[0]), hard)

    def test_sets_of_no_course(self):
        # Behind LATE alone lie, by the deal that is forced, the scenes of a set that is there.
        self.assert_holds(True, SETS + (ALONE,), DESK, Stream(((((), 0), ((0,), 0)),)))
        # Here a ticket comes in each round, and what lies behind one of these alone is not there.
        busy, drip = Desk(1, ((1, 3, (0,), (), False),)), Stream(((((0,), 0),),))
        sets = knowing(busy, drip)[1]
        self.assert_holds(True, sets, busy, drip)
        self.assert_holds(False, tuple(sorted(sets + (((0, ((0, 1, 2),)),),))), busy, drip)

    def test_the_set_is_the_whole_one(self):
        self.assert_holds(False, (SETS[0], ALONE))
        self.assert_holds(False, ((START, LATE), ALONE))
        self.assert_holds(False, (SETS[0], (START, (0, ((0, 1, 1), (0, 1, 1))), LATE)))
        # No set that is larger will do, nor several that have the scenes together.
        more = tuple(sorted((START, LATE, (0, ((0, 1, 2),)))))
        self.assert_holds(False, (SETS[0], more))
        self.assert_holds(False, tuple(sorted((SETS[0], ALONE, more))))

    def test_order_of_the_sets(self):
        self.assert_holds(False, SETS[::-1])
        self.assert_holds(False, SETS[:1] + SETS)
        self.assert_holds(False, SETS + SETS[1:])

    def test_order_of_the_scenes(self):
        self.assert_holds(False, (SETS[0], SETS[1][::-1]))
        self.assert_holds(False, (SETS[0], (START, START, LATE)))
        self.assert_holds(False, (SETS[0], (START, LATE, LATE)))
        self.assert_holds(False, ((START, START), SETS[1]))

    def test_one_state_in_each_set(self):
        loops = Stream(((((), 0),), (((), 1),), (((), 2),)))
        self.assert_holds(True, ((START,), ((1, ()),), ((2, ()),)), DESK, loops)
        self.assert_holds(False, ((START,), (START, (1, ()))), DESK, loops)
        self.assert_holds(False, ((START,), ((1, ()), (2, ()))), DESK, loops)
        # All of these lead to sets that are there, if their first state alone is asked.
        joint = Stream(((((), 0),), (((), 0),)))
        self.assert_holds(True, ((START,), ((1, ()),)), DESK, joint)
        self.assert_holds(False, ((START,), (START, (1, ()))), DESK, joint)

    def test_what_knowing_returns(self):
        told = []
        for desk, stream, _ in PLACES:
            word, found = knowing(desk, stream)
            told.append(word)
            self.assert_holds(word == "sets", found, desk, stream)
        self.assertGreater(told.count("sets"), 20)
        self.assertGreater(told.count("course"), 20)

    def test_every_course_can_be_kept(self):
        rng = random.Random("courses")
        for desk, stream, _ in PLACES:
            word, found = knowing(desk, stream)
            held = (START,)
            for _ in range(25 if word == "sets" else 0):
                held = set_slow(desk, stream, held, rng.randrange(len(stream.states[held[0][0]])))
                self.assertIn(held, found)

    def test_changed_sets(self):
        rng = random.Random("changed sets")
        told = []
        for desk, stream, scenes in PLACES:
            word, sets = knowing(desk, stream)
            if word == "course":
                # All that can be told of such a place does not hold.
                sets = tuple(sorted({course_set(desk, stream, found) for found in (sets[:-1], sets[:1], ())} - {()}))
                self.assert_holds(False, sets, desk, stream)
            for other in cut(rng, sets, 2) + self.other_sets(rng, sets, scenes):
                truth = sets_hold_slow(desk, stream, other)
                self.assert_holds(truth, other, desk, stream)
                told.append(truth)
                self.assertFalse(truth and word == "course")
        self.assertGreater(told.count(True), 20)
        self.assertGreater(told.count(False), 200)

    @staticmethod
    def other_sets(rng, sets, scenes):
        found = []
        for at in some(rng, range(len(sets)), 4):
            held = sets[at]
            for changed in some(rng, cut(rng, held, 1), 3):
                found.append(replaced(sets, at, changed))
                found.append(tuple(sorted({*sets, changed})))
            scene = rng.choice(scenes)
            found.append(tuple(sorted({*sets, (scene,)})))
            found.append(tuple(sorted({*replaced(sets, at, tuple(sorted({*held, scene})))})))
        return found

    def test_odd_values(self):
        for value in ODD + (DESK.kinds, STREAM.states, {0: ()}, ("sets", SETS), [[]], [[[]]], START, (START,)):
            self.assertIs(sets_hold(DESK, STREAM, value), False)

    def test_odd_parts(self):
        for odd in ODD + ((), [0], 0):
            self.assert_holds(False, SETS + (odd,))
            self.assert_holds(False, (odd,) + SETS)
            self.assert_holds(False, SETS + ((odd,),))
            self.assert_holds(False, (SETS[0], (odd,) + SETS[1]))
            self.assert_holds(False, (SETS[0], SETS[1] + (odd,)))
            self.assert_holds(False, (SETS[0], (START, (0, (odd,)))))
            self.assert_holds(False, (SETS[0], (START, (0, ((0, 1, odd),)))))
            self.assert_holds(False, (SETS[0], (START, LATE + (odd,))))
            if odd != 0 or odd is False:
                self.assert_holds(False, (SETS[0], (START, (odd, LATE[1]))))

    def test_true_is_no_integer(self):
        for held in (((False, ()), LATE), (START, (False, LATE[1])), (START, (0, ((0, True, 1),))),
                     (START, (0, ((0, 1, True),))), (START, (0, ((False, 1, 1),)))):
            self.assert_holds(False, (SETS[0], held))

    def test_moments_of_more_than_forty_tickets(self):
        # What comes in is due at once. Forty tickets are open besides, one or more of them due as well.
        trio = Desk(3, ((1, 1, (0, 1, 2), (), False), (1, 2, (0, 1, 2), (), False)))
        stream = Stream(((((0,), 0),),))
        self.assert_holds(True, ((START,),), trio, stream)
        for due, behind in ((1, (38, 39)), (2, (38,))):
            scene = (0, ((1, 1, 1),) * due + ((1, 1, 2),) * (40 - due))
            self.assertTrue(is_scene(trio, stream, scene))
            after = tuple((0, ((1, 1, 1),) * count) for count in behind)
            value = ((START,), (START, *after), (START, scene))
            self.assert_holds(True, tuple(sorted(value)), trio, stream)
            self.assert_holds(False, tuple(sorted(value[::2])), trio, stream)

    def test_scenes_behind_of_more_than_forty_tickets(self):
        desk, drip = Desk(1, ((1, 3, (0,), (), False),)), Stream(((((0,), 0),),))
        sets = knowing(desk, drip)[1]
        for many in (1, 30, 35):
            held = (START, (0, ((0, 1, 3),) * many))
            closed = set(sets)
            while held not in closed:
                closed.add(held)
                held = set_slow(desk, drip, held, 0)
            self.assert_holds(True, tuple(sorted(closed)), desk, drip)
        # Behind forty of these lie forty tickets if one is dealt, and otherwise forty-one.
        full = (START, (0, ((0, 1, 3),) * 40))
        after = list(set_slow(desk, drip, full[:1], 0))
        for count in (0, 1, 2):
            behind = tuple(sorted(after + [(0, ((0, 1, 2),) * many) for many in (40, 41)[:count]]))
            self.assert_holds(False, tuple(sorted({*sets, full, behind})), desk, drip)

    def test_passed_lists_are_not_changed(self):
        value = as_lists(SETS)
        self.assertIs(sets_hold(desk=DESK, stream=STREAM, value=value), True)
        self.assertEqual(value, as_lists(SETS))

    def test_errors(self):
        for value in (SETS, (), None):
            self.assert_wants_desk_and_stream(sets_hold, value)
        self.assertEqual(sets_hold.__module__, "promisedesk.checking")


if __name__ == "__main__":
    unittest.main()
