"""What a round makes of a scene.

The functions take arguments that are known to be as told, in plain tuples,
and know no limit of how many tickets are open: the functions that are called
from outside, and the checkers, set limits of their own.
"""

from promisedesk.desks import ABLE, BEHIND, JOINS, PROMISE, WORK


def moment_by(desk, stream, scene, arc):
    """The moment that the arc makes of the scene."""
    state, tickets = scene
    kinds, next_state = stream.states[state][arc]
    found = list(tickets)
    for kind in kinds:
        told = desk.kinds[kind]
        if not (told[JOINS] and kind in kinds_of(found)):
            found.append((kind, told[WORK], told[PROMISE]))
    return next_state, tuple(sorted(found))


def kinds_of(tickets):
    """The kinds of the tickets, ascending."""
    return sorted({ticket[0] for ticket in tickets})


def free_tickets(desk, tickets):
    """The open tickets that are not held, ascending, each once."""
    there = kinds_of(tickets)
    held = [kind for kind in there if any([ahead in there for ahead in desk.kinds[kind][BEHIND]])]
    return [ticket for ticket in sorted(set(tickets)) if ticket[0] not in held]


def can_take(desk, agent, ticket):
    """Whether the agent is able for the ticket's kind."""
    return agent in desk.kinds[ticket[0]][ABLE]


def times_dealt(deal, ticket):
    """How often the ticket stands in the deal."""
    return [given for _, given in deal].count(ticket)


def deals_at(desk, moment):
    """The ascending tuple of all deals at the moment."""
    tickets = moment[1]
    free = free_tickets(desk, tickets)
    many = {ticket: tickets.count(ticket) for ticket in free}
    found = [()]
    for agent in range(desk.agents):
        mine = [ticket for ticket in free if can_take(desk, agent, ticket)]
        found = found + [deal + ((agent, ticket),) for deal in found for ticket in mine
                         if times_dealt(deal, ticket) < many[ticket]]
    return tuple(sorted(found))


def scene_behind(moment, deal):
    """The scene that lies behind the moment by the deal, or None if a promise is broken."""
    state, tickets = moment
    rest = list(tickets)
    for _, ticket in deal:
        rest.remove(ticket)
    worked = [(kind, left - 1, time) for _, (kind, left, time) in deal if left > 1]
    later = sorted([(kind, left, time - 1) for kind, left, time in rest + worked])
    if 0 in [ticket[2] for ticket in later]:
        return None
    return state, tuple(later)
