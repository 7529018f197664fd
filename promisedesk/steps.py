"""What a round makes of a scene.

The functions take arguments that are known to be as told, in plain tuples,
and know no limit of how many tickets are open: the functions that are called
from outside, and the checkers, set limits of their own.
"""

from promisedesk.desks import ABLE, BEHIND, JOINS, PROMISE, WORK

FIRST = (0, ())


def moment_by(desk, stream, scene, arc):
    """The moment that the arc makes of the scene."""
    state, tickets = scene
    kinds, next_state = stream.states[state][arc]
    found = list(tickets)
    for kind in kinds:
        told = desk.kinds[kind]
        if not (told[JOINS] and kind in kinds_of(found)):
            found.append((kind, told[WORK], told[PROMISE]))
    return next_state, tuple(sorted(found))


def moments_of(desk, stream, scene):
    """The moments that the arcs of its state make of the scene, arc by arc."""
    return [moment_by(desk, stream, scene, arc) for arc in range(len(stream.states[scene[0]]))]


def kinds_of(tickets):
    """The kinds of the tickets, ascending."""
    return sorted({ticket[0] for ticket in tickets})


def free_tickets(desk, tickets):
    """The open tickets that are not held, ascending, each once."""
    there = kinds_of(tickets)
    held = [kind for kind in there if any([ahead in there for ahead in desk.kinds[kind][BEHIND]])]
    return [ticket for ticket in sorted(set(tickets)) if ticket[0] not in held]


def can_take(desk, agent, ticket):
    """Whether the agent is able for the ticket's kind."""
    return agent in desk.kinds[ticket[0]][ABLE]


def times_dealt(deal, ticket):
    """How often the ticket stands in the deal."""
    return [given for _, given in deal].count(ticket)


def deals_at(desk, moment):
    """The ascending tuple of all deals at the moment."""
    tickets = moment[1]
    free = free_tickets(desk, tickets)
    many = {ticket: tickets.count(ticket) for ticket in free}
    found = [()]
    for agent in range(desk.agents):
        mine = [ticket for ticket in free if can_take(desk, agent, ticket)]
        found = found + [deal + ((agent, ticket),) for deal in found for ticket in mine
                         if times_dealt(deal, ticket) < many[ticket]]
    return tuple(sorted(found))


def scene_behind(moment, deal):
    """The scene that lies behind the moment by the deal, or None if a promise is broken."""
    state, tickets = moment
    rest = list(tickets)
    for _, ticket in deal:
        rest.remove(ticket)
    worked = [(kind, left - 1, time) for _, (kind, left, time) in deal if left > 1]
    later = sorted([(kind, left, time - 1) for kind, left, time in rest + worked])
    if 0 in [ticket[2] for ticket in later]:
        return None
    return state, tuple(later)


def due_tickets(tickets):
    """The tickets that have to be done in this round."""
    return [ticket for ticket in tickets if ticket[2] == 1]


def can_be_done(desk, ticket, free):
    """Whether some agent, if it takes the ticket, ends the work that is left of it."""
    kind, left, _ = ticket
    return left == 1 and ticket in free and len(desk.kinds[kind][ABLE]) > 0


def with_agent(found, agent, mine, many):
    """The choices of tickets when the agent may take one of its own as well, each with a deal."""
    further = {}
    for chosen, deal in found.items():
        further.setdefault(chosen, deal)
        for ticket in mine:
            if chosen.count(ticket) < many[ticket]:
                further.setdefault(tuple(sorted(chosen + (ticket,))), deal + ((agent, ticket),))
    return further


def unlike_deals(desk, moment):
    """One deal for each choice of tickets that can be dealt, but for some by which a promise is broken."""
    tickets = moment[1]
    free = free_tickets(desk, tickets)
    due = due_tickets(tickets)
    if not all([can_be_done(desk, ticket, free) for ticket in due]):
        return []
    many = {ticket: tickets.count(ticket) for ticket in free}
    found = {(): ()}
    for agent in range(desk.agents):
        mine = [ticket for ticket in free if can_take(desk, agent, ticket)]
        further = with_agent(found, agent, mine, many)
        # If more tickets are due than agents are left, one stays undone whatever these take.
        left = desk.agents - 1 - agent
        found = {chosen: further[chosen] for chosen in further if len(due) - len(due_tickets(chosen)) <= left}
    return list(found.values())


def ways_on(desk, moment):
    """The scenes that lie behind the moment by deals that break no promise, each with one such deal."""
    # Who takes a ticket makes no difference for the scene behind, so not all deals are gone through.
    found = {}
    for deal in unlike_deals(desk, moment):
        behind = scene_behind(moment, deal)
        if behind is not None:
            found[behind] = deal
    return found
