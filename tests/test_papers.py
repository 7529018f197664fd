"""Promises 3, 12, 24 and 25: which papers hold."""

import random
import unittest

from promisedesk.checking import paper_holds
from promisedesk.desks import Desk, Stream
from promisedesk.keeping import keep
from promisedesk.scenes import is_scene

from changes import cut, replaced, some
from samples import ODD, Raises, as_lists, many
from slow import paper_slow, rounds_by_paper, small_places

PLACES = small_places("papers", 120, 40)

# One agent; a ticket of work 2 is promised within 2 rounds, and by arc 1 one comes in every round.
DESK = Desk(1, ((2, 2, (0,), (), False),))
STREAM = Stream(((((), 0), ((0,), 0)),))
PAPER = ((0, ((0, 1, 1),), 1), (0, ((0, 2, 1),), 0), (0, (), 1))
# What the desk may do behind ((0, 1, 1)): the ticket that came in last is left with all of its work.
FULL = ((0, ((0, 2, 1),), 0), (0, ((0, 1, 1),), 1), (0, (), 1))


class PaperTest(Raises):

    def assert_holds(self, truth, paper, desk=DESK, stream=STREAM):
        self.assertIs(paper_holds(desk, stream, paper), truth, paper)
        self.assertIs(paper_holds(desk, stream, as_lists(paper)), truth, paper)

    def test_papers_that_hold(self):
        self.assert_holds(True, FULL)
        self.assert_holds(True, (FULL[0], (0, ((0, 2, 1),), 1), *FULL[1:]))
        self.assert_holds(True, (FULL[0], (0, ((0, 2, 1), (0, 2, 2)), 0), *FULL[1:]))

    def test_a_paper_of_one_line(self):
        one = Desk(1, ((2, 1, (0,), (), False), (1, 1, (0,), (), False)))
        stream = Stream(((((), 0), ((0,), 0), ((1,), 0)),))
        self.assert_holds(True, ((0, (), 1),), one, stream)
        self.assert_holds(False, ((0, (), 0),), one, stream)
        self.assert_holds(False, ((0, (), 2),), one, stream)

    def test_empty_paper(self):
        for paper in ((), []):
            self.assertIs(paper_holds(DESK, STREAM, paper), False)

    def test_earlier_lines_alone(self):
        self.assert_holds(False, (FULL[1], FULL[0], FULL[2]))
        self.assert_holds(False, PAPER)
        self.assert_holds(False, FULL[1:])
        self.assert_holds(False, FULL[:1] + FULL[2:])
        # The scene of the line itself is none of an earlier one.
        self.assert_holds(False, ((0, (), 0),))
        self.assert_holds(False, ((0, (), 0), (0, (), 0)))

    def test_last_line_is_of_the_first_scene(self):
        self.assert_holds(False, FULL[:1])
        self.assert_holds(False, FULL[:2])
        self.assert_holds(False, FULL + FULL[:1])
        # A line with the same scene may stand twice, with other arcs too.
        self.assert_holds(True, FULL[:1] + FULL)
        self.assert_holds(True, FULL + FULL[2:])
        self.assert_holds(True, FULL + ((0, (), 0),))
        self.assert_holds(False, ((0, (), 0),) + FULL)

    def test_the_first_scene_is_of_state_0(self):
        stream = Stream(((((), 1),), (((0, 0, 0), 1),)))
        self.assert_holds(True, ((1, (), 0), (0, (), 0)),  Desk(1, ((1, 1, (0,), (), False),)), stream)
        self.assert_holds(False, ((1, (), 0),),  Desk(1, ((1, 1, (0,), (), False),)), stream)

    def test_every_deal_is_asked(self):
        # Of two agents the second one alone can end both tickets, in two rounds.
        desk = Desk(2, ((1, 1, (0, 1), (), False), (1, 2, (1,), (), False)))
        stream = Stream(((((0, 1), 1),), (((0, 1), 2),), (((0, 0, 0), 0),)))
        self.assertEqual(keep(desk, stream)[0], "paper")
        lines = ((2, (), 0), (2, ((1, 1, 1),), 0), (1, (), 0), (1, ((1, 1, 1),), 0), (0, (), 0))
        self.assert_holds(True, lines, desk, stream)
        for at in range(5):
            self.assert_holds(False, lines[:at] + lines[at + 1:], desk, stream)

    def test_odd_papers(self):
        for paper in ODD + (DESK.kinds, STREAM.states, {0: ()}, ("paper", FULL), [[]]):
            self.assertIs(paper_holds(DESK, STREAM, paper), False)

    def test_odd_parts(self):
        for odd in ODD + ((), [0]):
            # One of these is a line.
            self.assert_holds(odd == (0, (), 0), FULL + (odd,))
            self.assert_holds(False, (odd,) + FULL)
            self.assert_holds(False, FULL[:2] + ((odd, (), 1),))
            self.assert_holds(False, FULL[:2] + ((0, (), odd),))
            self.assert_holds(False, FULL[:2] + ((0, (), 1, odd),))
            self.assert_holds(False, ((0, (odd,), 0),) + FULL)
            if odd not in ((), [0]):
                self.assert_holds(False, ((0, odd, 0),) + FULL)

    def test_lines_that_are_none(self):
        for row in ((1, (), 0), (-1, (), 0), (0, (), 2), (0, (), -1), (0, ((0, 3, 1),), 0), (0, ((0, 2, 3),), 0),
                    (0, ((1, 1, 1),), 0), (0, ((0, 2, 1), (0, 1, 1)), 0), (0, ((0, 0, 1),), 0), (0, (0, 2, 1), 0)):
            self.assert_holds(False, (row,) + FULL)

    def test_true_is_no_integer(self):
        one = Desk(1, ((2, 1, (0,), (), False), (2, 1, (0,), (), False)))
        stream = Stream(((((), 0), ((1,), 0)), (((0,), 0),)))
        self.assert_holds(True, ((0, (), 1),), one, stream)
        for row in ((False, (), 1), (0, (), True)):
            self.assert_holds(False, (row,), one, stream)
        for row in ((True, (), 0), (1, (), False), (1, ((False, 2, 1),), 0), (1, ((0, 2, True),), 0)):
            self.assert_holds(False, (row, (0, (), 1)), one, stream)
        for row in ((1, (), 0), (1, ((0, 2, 1),), 0)):
            self.assert_holds(True, (row, (0, (), 1)), one, stream)

    def test_thirty_seven_and_thirty_eight_tickets(self):
        one = Desk(1, ((2, 1, (0,), (), False), (1, 12, (0,), (), False)))
        stream = Stream(((((0,), 0), ((1, 1, 1), 0)),))
        self.assert_holds(True, ((0, (), 0),), one, stream)
        for count in (36, 37, 38, 39, 40):
            tickets = ((1, 1, 1),) * count
            self.assertTrue(is_scene(one, stream, (0, tickets)))
            for arc in (0, 1):
                self.assert_holds(count < 38, ((0, tickets, arc), (0, (), 0)), one, stream)

    def test_many_unlike_tickets_and_three_agents(self):
        trio = Desk(3, ((4, 12, (0, 1, 2), (), False), (1, 12, (0, 1, 2), (), True), (2, 1, (), (), False)))
        stream = Stream(((((2,), 0), ((), 0)),))
        early = tuple((0, left, time) for left in (1, 2, 3, 4) for time in range(2, 13))[:37]
        self.assert_holds(True, ((0, early, 0), (0, (), 0)), trio, stream)
        self.assert_holds(False, ((0, early, 1), (0, (), 0)), trio, stream)
        # A ticket is due and wants two rounds of work.
        self.assertIn((0, 2, 1), many(37))
        self.assert_holds(True, ((0, many(37), 1), (0, (), 0)), trio, stream)
        for due, truth in ((3, False), (4, True)):
            self.assert_holds(truth, ((0, ((0, 1, 1),) * due + early[1:30], 1), (0, (), 0)), trio, stream)

    def test_what_keep_returns(self):
        for desk, stream, _ in PLACES:
            word, found = keep(desk, stream)
            self.assert_holds(word == "paper", found, desk, stream)

    def test_changed_papers(self):
        rng = random.Random("changed papers")
        told = []
        for desk, stream, scenes in PLACES:
            word, paper = keep(desk, stream)
            if word == "book":
                paper = ((0, (), 0),)
            for other in cut(rng, paper, 3) + self.other_lines(rng, stream, paper, scenes):
                truth = paper_slow(desk, stream, other)
                self.assert_holds(truth, other, desk, stream)
                told.append(truth)
                if truth:
                    self.assertLessEqual(rounds_by_paper(desk, stream, other), len(other))
                    self.assertEqual(word, "paper")
        self.assertGreater(told.count(True), 100)
        self.assertGreater(told.count(False), 200)

    @staticmethod
    def other_lines(rng, stream, paper, scenes):
        found = []
        for at in some(rng, range(len(paper)), 4):
            for arc in range(5):
                found.append(replaced(paper, at, paper[at][:2] + (arc,)))
            state, tickets = rng.choice(scenes)
            line = (state, tickets, rng.randrange(len(stream.states[state])))
            found.append(paper[:at] + (line,) + paper[at:])
            found.append(replaced(paper, at, line))
        return found

    def test_passed_lists_are_not_changed(self):
        paper = as_lists(FULL)
        self.assertIs(paper_holds(desk=DESK, stream=STREAM, paper=paper), True)
        self.assertEqual(paper, as_lists(FULL))

    def test_errors(self):
        for paper in (FULL, (), None):
            self.assert_wants_desk_and_stream(paper_holds, paper)
        self.assertEqual(paper_holds.__module__, "promisedesk.checking")


if __name__ == "__main__":
    unittest.main()
