"""What several tests use: desks, streams, odd values, and a second, slow way to find deals."""

import unittest
from itertools import product

from promisedesk.desks import Desk, Stream
from promisedesk.errors import BadValue, DeskError, TooMany
from promisedesk.steps import deals_at, moment_by, scene_behind


def deep(levels):
    """Lists and tuples in one another, so many levels deep."""
    value = 0
    for level in range(levels):
        value = [value] if level & 1 else (value,)
    return value


# No scene, no deal, no integer from 0 on, no sequence of integers.
ODD = (
    True, False, None, -1, 10 ** 30 - 1, 1 - 10 ** 30, 41,
    "", "0", "abc", "x" * 60000, "\n",
    [[]], ((),), [None], (None, None), [0, [True]], ["0", ()], [0, "()"], (0, (), 0), [9],
    deep(40), [deep(19)] * 900, [0] * 19999, [[0, 1, 1]] * 4000, ((0, ((0, 1, 1),)),) * 2000,
)

# A plain kind of a desk.
KIND = (1, 1, (0,), (), False)

# Two agents; kind 2 waits for kinds 0 and 1, kind 1 for kind 0; kind 1 joins.
DESK = Desk(2, ((2, 4, (0,), (), False), (1, 2, (0, 1), (0,), True), (3, 5, (1,), (0, 1), False)))
STREAM = Stream(((((0, 1), 1), ((), 0), ((0, 0, 0), 0), ((1, 1, 2), 1)), (((2, 2), 0), ((1,), 1))))

# Three agents, able for all; nothing waits; kind 0 joins.
FREE = Desk(3, ((1, 12, (0, 1, 2), (), True), (4, 12, (0, 1, 2), (), False), (2, 12, (0, 1, 2), (), False)))
FLOW = Stream(((((0, 0, 1), 0), ((1, 2, 2), 1), ((0, 1, 2), 0)), (((2,), 0), ((1, 1), 1))))

# Nobody is able for kind 0, and kind 1 waits for it.
STUCK = Desk(1, [[1, 3, [], [], False], [1, 2, [0], [0], False]])
DRIP = Stream([[[[0, 1], 0], [[1], 0], [[], 0]]])

# Kinds of work 4 and promise 12, so that many unlike tickets can be open.
WIDE = Desk(1, ((4, 12, (0,), (), False), (4, 12, (0,), (), True)))
WIDE_STREAM = Stream(((((0, 0, 0), 0), ((1, 1, 1), 0), ((), 0)),))

PLACES = ((DESK, STREAM), (FREE, FLOW), (STUCK, DRIP))


# Wants more than 400 scenes.
CROWD = Desk(3, ((4, 12, (0, 1, 2), (), False), (4, 12, (0, 1, 2), (), False)))
CROWD_STREAM = Stream(((((0, 0, 1), 0), ((0, 1, 1), 0)),))


class Raises(unittest.TestCase):
    """A test that asks which error is raised, with which number."""

    def assert_at(self, error, at, call, *told):
        with self.assertRaises(DeskError) as caught:
            call(*told)
        self.assertIs(type(caught.exception), error, told)
        self.assertEqual(caught.exception.at, at, told)


    def assert_word(self, word, call, *told):
        with self.assertRaises(DeskError) as caught:
            call(*told)
        self.assertIs(type(caught.exception), TooMany, told)
        self.assertEqual(caught.exception.word, word, told)

    def assert_wants_desk_and_stream(self, call, *told):
        """That the errors of the first two arguments are raised, ahead of all others."""
        for value in ODD + (STREAM, (), (1, DESK.kinds)):
            self.assert_at(BadValue, 1, call, value, STREAM, *told)
            self.assert_at(BadValue, 1, call, value, None, *told)
        for value in ODD + (DESK, (), STREAM.states):
            self.assert_at(BadValue, 2, call, DESK, value, *told)
        # Only kind 2 of the stream does not fit; and the scenes would be too many.
        pair = Desk(3, CROWD.kinds)
        self.assert_at(BadValue, 2, call, pair, Stream(CROWD_STREAM.states + ((((2,), 0),),)), *told)
        self.assert_at(BadValue, 2, call, STUCK, STREAM, *told)


def many(count):
    """So many open tickets of the wide desk, rising, the last two equal."""
    rows = [(0, left, time) for left in range(1, 5) for time in range(1, 13)]
    return tuple(rows[:count - 2] + [(1, 1, 1)] * 2)


def moments_of(desk, stream, many):
    """Some moments that come about, the first ones found, and those two rounds behind them."""
    found = []
    scenes = [(0, ())]
    for scene in scenes:
        for arc in range(len(stream.states[scene[0]])):
            moment = moment_by(desk, stream, scene, arc)
            if moment not in found and len(moment[1]) < 10:
                found.append(moment)
            for deal in deals_at(desk, moment)[:6]:
                behind = scene_behind(moment, deal)
                if behind is not None and behind not in scenes and len(scenes) < many:
                    scenes.append(behind)
    return found[:many]


def deals_by_places(desk, moment):
    """The ascending tuple of all deals, found by the places of the tickets in the moment."""
    tickets = moment[1]
    there = [kind for kind, _, _ in tickets]
    found = set()
    for taken in product(range(-1, len(tickets)), repeat=desk.agents):
        places = [place for place in taken if place >= 0]
        if len(set(places)) < len(places):
            continue
        deal = tuple((agent, tickets[place]) for agent, place in enumerate(taken) if place >= 0)
        able = all(agent in desk.kinds[ticket[0]][2] for agent, ticket in deal)
        held = any(kind in there for _, ticket in deal for kind in desk.kinds[ticket[0]][3])
        if able and not held:
            found.add(deal)
    return tuple(sorted(found))


def behind_by_places(moment, deal):
    """The scene behind, found ticket by ticket, or None if a promise is broken."""
    open_deal = [ticket for _, ticket in deal]
    found = []
    for kind, left, time in moment[1]:
        if (kind, left, time) in open_deal:
            open_deal.remove((kind, left, time))
            left = left - 1
        if left == 0:
            continue
        if time == 1:
            return None
        found.append((kind, left, time - 1))
    return moment[0], tuple(sorted(found))


def is_plain(value):
    """Whether value holds plain tuples, integers and truths alone, at every level."""
    if type(value) is tuple:
        return all(is_plain(one) for one in value)
    return type(value) in (int, bool)


def as_lists(value):
    """The value with lists for tuples, at every level."""
    if isinstance(value, tuple):
        return [as_lists(one) for one in value]
    return value
