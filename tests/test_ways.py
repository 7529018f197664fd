"""That not all deals have to be gone through: the scenes behind a moment are the same ones."""

import random
import unittest

from promisedesk.desks import Desk, Stream
from promisedesk.reach import Reach, set_behind
from promisedesk.scenes import deals, dealt
from promisedesk.steps import ways_on

from samples import PLACES, moments_of
from slow import START, behind_moment, random_desk, set_slow, small_places

QUIET = Stream(((((), 0),),))


def random_moment(rng, desk):
    """A moment with some tickets that are due, and some that are open more than once."""
    tickets = []
    for _ in range(rng.randint(0, 7)):
        kind = rng.randrange(len(desk.kinds))
        work, promise = desk.kinds[kind][:2]
        time = rng.choice((1, rng.randint(1, promise)))
        tickets += [(kind, rng.randint(1, work), time)] * rng.choice((1, 1, 2))
    return 0, tuple(sorted(tickets))


class WaysTest(unittest.TestCase):

    def assert_all_ways(self, desk, stream, moment):
        ways = ways_on(desk, moment)
        self.assertEqual(set(ways), behind_moment(desk, stream, moment), (desk.kinds, moment))
        for scene, deal in ways.items():
            self.assertEqual(dealt(desk, stream, moment, deal), scene)

    def test_moments_that_come_about(self):
        for desk, stream in PLACES:
            for moment in moments_of(desk, stream, 40):
                self.assert_all_ways(desk, stream, moment)

    def test_any_moments(self):
        rng = random.Random("ways")
        broken = 0
        for _ in range(3000):
            desk = random_desk(rng)
            moment = random_moment(rng, desk)
            self.assert_all_ways(desk, QUIET, moment)
            broken += not ways_on(desk, moment)
        self.assertGreater(broken, 100)
        self.assertGreater(3000 - broken, 500)

    def test_three_that_are_due(self):
        trio = Desk(3, ((1, 3, (0, 1), (), False), (2, 3, (1, 2), (), False), (1, 2, (0, 1, 2), (1,), False)))
        for tickets in (((0, 1, 1), (0, 1, 1), (1, 1, 1)), ((0, 1, 1),) * 3, ((0, 1, 1), (1, 1, 1), (1, 1, 1)),
                        ((0, 1, 1), (0, 1, 3), (1, 1, 1), (1, 2, 2)), ((1, 2, 1),), ((1, 1, 1), (2, 1, 1))):
            self.assert_all_ways(trio, QUIET, (0, tickets))

    def test_each_choice_of_tickets_once(self):
        trio = Desk(3, ((4, 12, (0, 1, 2), (), False),))
        tickets = tuple((0, 4, time) for time in range(2, 8))
        self.assertEqual(len(ways_on(trio, (0, tickets))), 1 + 6 + 15 + 20)
        self.assertEqual(len(deals(trio, QUIET, (0, tickets))), 1 + 3 * 6 + 3 * 30 + 120)

    def test_sets_by_numbers(self):
        for desk, stream, scenes in small_places("numbers", 30):
            reach = Reach(desk, stream)
            self.assertEqual(reach.number(START), 0)
            for arc in range(len(stream.states[0])):
                found = [reach.scenes[number] for number in set_behind(reach, (0,), arc)]
                self.assertEqual(tuple(sorted(found)), set_slow(desk, stream, (START,), arc))
            self.assertEqual([reach.number(scene) for scene in reach.scenes], list(range(len(reach.scenes))))
            self.assertLessEqual(set(reach.scenes), set(scenes))


if __name__ == "__main__":
    unittest.main()
