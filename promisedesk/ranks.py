"""Rankings: a fixed order of what to do first, and what comes of dealing by it."""

from promisedesk.desks import check_both
from promisedesk.errors import BadValue
from promisedesk.forms import has_length, is_whole
from promisedesk.reach import START, explored
from promisedesk.scenes import plain_scene
from promisedesk.steps import can_take, free_tickets, scene_behind, times_dealt

MOST_ROWS = 200


def plain_row(value):
    """The row of a ranking as a plain tuple, or None if value is none."""
    if not has_length(value, 4, 4) or not all([is_whole(one) for one in value]):
        return None
    return tuple(value)


def plain_ranking(value):
    """The rows of the ranking in plain tuples, or None if value is no ranking."""
    if not has_length(value, 0, MOST_ROWS):
        return None
    found = [plain_row(row) for row in value]
    if None in found or len(set(found)) < len(found):
        return None
    return found


def rows_told(desk, stream, ranking):
    """The rows of the ranking in plain tuples; the errors of the three arguments are raised."""
    check_both(desk, stream)
    rows = plain_ranking(ranking)
    if rows is None:
        raise BadValue(3)
    return rows


def used_at(desk, moment, rows):
    """The numbers of the rows that are used at the moment, and the deal that they make."""
    tickets = moment[1]
    free = free_tickets(desk, tickets)
    used = []
    pairs = []
    for at, row in enumerate(rows):
        agent, ticket = row[0], row[1:]
        # A row may have any integers; the ticket is asked first, as only one that is open surely has a kind.
        if ticket not in free or not can_take(desk, agent, ticket) or agent in [busy for busy, _ in pairs]:
            continue
        if times_dealt(pairs, ticket) < tickets.count(ticket):
            pairs.append((agent, ticket))
            used.append(at)
    return used, tuple(sorted(pairs))


def deal_by(desk, stream, ranking, moment):
    """The deal that the ranking makes at the moment."""
    rows = rows_told(desk, stream, ranking)
    found = plain_scene(desk, stream, moment)
    if found is None:
        raise BadValue(4)
    _, deal = used_at(desk, found, rows)
    return deal


def gone_through(reach, rows):
    """What comes about when all is dealt by the rows, in each course up to its first broken promise: a triple.

    The scenes, by numbers, each with a shortest course that leads to it; the rows used, as keys of a dict;
    and a shortest course in the last round of which a promise is broken, or None.
    """
    courses = {START: ()}
    waiting = [START]
    used = {}
    broken = None
    at = 0
    while at < len(waiting):
        number = waiting[at]
        at += 1
        for arc, moment in enumerate(reach.moments(number)):
            course = courses[number] + (arc,)
            numbers, deal = used_at(reach.desk, moment, rows)
            for row in numbers:
                used[row] = True
            scene = scene_behind(moment, deal)
            # The scenes wait in the order of their courses, so the first promise broken is one by a shortest course.
            if scene is None and broken is None:
                broken = course
            if scene is not None and reach.number(scene) not in courses:
                courses[reach.number(scene)] = course
                waiting.append(reach.number(scene))
    return courses, used, broken


def runs(desk, stream, ranking):
    """The scenes that come about when all is dealt by the ranking, or a shortest course that breaks a promise."""
    rows = rows_told(desk, stream, ranking)
    reach = explored(desk, stream)
    courses, _, broken = gone_through(reach, rows)
    if broken is not None:
        return "course", broken
    return "closed", tuple(sorted([reach.scenes[number] for number in courses]))


def idle_rows(desk, stream, ranking):
    """The numbers of the rows that are used in no course up to and with its first round that breaks a promise."""
    rows = rows_told(desk, stream, ranking)
    used = gone_through(explored(desk, stream), rows)[1]
    return tuple([at for at in range(len(rows)) if at not in used])
