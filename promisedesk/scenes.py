"""Scenes, and the rounds of a desk and a stream, for arguments of any form."""

from promisedesk.desks import PROMISE, WORK, check_both
from promisedesk.errors import BadValue
from promisedesk.forms import has_length, is_ascending, is_between, is_rising
from promisedesk.steps import can_take, deals_at, free_tickets, moment_by, scene_behind, times_dealt

MOST_TICKETS = 40
# So that no more than MOST_TICKETS are open when an arc has brought some.
MOST_TICKETS_AHEAD = 37


def plain_ticket(desk, value):
    """The ticket as a plain tuple, or None if value is none."""
    if not has_length(value, 3, 3):
        return None
    kind, left, time = value
    if not is_between(kind, 0, len(desk.kinds) - 1):
        return None
    told = desk.kinds[kind]
    if not is_between(left, 1, told[WORK]) or not is_between(time, 1, told[PROMISE]):
        return None
    return kind, left, time


def plain_scene(desk, stream, value, most=MOST_TICKETS):
    """The scene in plain tuples, or None if value is no scene of at most so many tickets."""
    if not has_length(value, 2, 2):
        return None
    state, tickets = value
    if not is_between(state, 0, len(stream) - 1) or not has_length(tickets, 0, most):
        return None
    found = tuple([plain_ticket(desk, ticket) for ticket in tickets])
    if None in found or not is_rising(found):
        return None
    return state, found


def plain_pair(desk, value):
    """The pair (agent, ticket) in plain tuples, or None if value is none."""
    if not has_length(value, 2, 2) or not is_between(value[0], 0, desk.agents - 1):
        return None
    ticket = plain_ticket(desk, value[1])
    if ticket is None:
        return None
    return value[0], ticket


def plain_deal(desk, moment, value):
    """The deal in plain tuples, or None if value is no deal at the moment."""
    if not has_length(value, 0, desk.agents):
        return None
    found = tuple([plain_pair(desk, pair) for pair in value])
    if None in found or not is_ascending([agent for agent, _ in found]):
        return None
    free = free_tickets(desk, moment[1])
    for at, (agent, ticket) in enumerate(found):
        if ticket not in free or not can_take(desk, agent, ticket):
            return None
        if times_dealt(found[:at], ticket) == moment[1].count(ticket):
            return None
    return found


def is_scene(desk, stream, value):
    """Whether value is a scene of the desk and the stream."""
    check_both(desk, stream)
    return plain_scene(desk, stream, value) is not None


def come(desk, stream, scene, arc):
    """The moment that the arc makes of the scene."""
    check_both(desk, stream)
    found = plain_scene(desk, stream, scene, MOST_TICKETS_AHEAD)
    if found is None:
        raise BadValue(3)
    if not is_between(arc, 0, len(stream.states[found[0]]) - 1):
        raise BadValue(4)
    return moment_by(desk, stream, found, arc)


def plain_moment(desk, stream, moment):
    """The moment in plain tuples; the errors of the first three arguments are raised."""
    check_both(desk, stream)
    found = plain_scene(desk, stream, moment)
    if found is None:
        raise BadValue(3)
    return found


def deals(desk, stream, moment):
    """The ascending tuple of all deals at the moment."""
    return deals_at(desk, plain_moment(desk, stream, moment))


def dealt(desk, stream, moment, deal):
    """The scene that lies behind the moment by the deal, or None if a promise is broken."""
    found = plain_moment(desk, stream, moment)
    plain = plain_deal(desk, found, deal)
    if plain is None:
        raise BadValue(4)
    return scene_behind(found, plain)
