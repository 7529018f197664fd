"""Whether a desk can keep all promises whatever comes: books, papers and rounds."""

from promisedesk.desks import check_both
from promisedesk.reach import START, explored


def turns_into(reach):
    """For each scene, by numbers, the pairs (scene, arc) by which a round can lead to it."""
    found = [[] for _ in reach.scenes]
    for number in range(len(reach.scenes)):
        for arc, behind in enumerate(reach.behind(number)):
            for after in behind:
                found[after].append((number, arc))
    return found


def count_open(reach):
    """For each pair (scene, arc), how many scenes a round by it can lead to."""
    found = {}
    for number in range(len(reach.scenes)):
        for arc, behind in enumerate(reach.behind(number)):
            found[number, arc] = len(behind)
    return found


def closed_by(numbers, into, still):
    """The pairs (scene, arc) that lead to no scene any more, now that these scenes are lost as well."""
    found = []
    for number in numbers:
        for turn in into[number]:
            still[turn] -= 1
            if still[turn] == 0:
                found.append(turn)
    return found


def lost_scenes(reach):
    """The scenes, by numbers, from which the stream can break a promise whatever the desk does.

    Each with a pair: the fewest rounds within which it can, and the arc that it then takes first.
    Those with fewer rounds stand ahead.
    """
    into = turns_into(reach)
    still = count_open(reach)
    closed = [turn for turn in still if still[turn] == 0]
    lost = {}
    many = 1
    while closed:
        fresh = []
        for number, arc in closed:
            if number not in lost:
                lost[number] = (many, arc)
                fresh.append(number)
        closed = closed_by(fresh, into, still)
        many += 1
    return lost


def needed_lines(reach, lost):
    """The lost scenes that come about when the stream takes the arcs told for them, as keys of a dict."""
    needed = {START: True}
    waiting = [START]
    while waiting:
        number = waiting.pop()
        _, arc = lost[number]
        for after in reach.behind(number)[arc]:
            if after not in needed:
                needed[after] = True
                waiting.append(after)
    return needed


def paper_of(reach, lost):
    """The paper of those lost scenes that it needs."""
    needed = needed_lines(reach, lost)
    return tuple([reach.scenes[number] + (arc,) for number, (_, arc) in lost.items() if number in needed])


def safe_way(reach, moment, lost):
    """A scene behind the moment that is not lost, and the deal that leads to it."""
    found = [(after, deal) for after, deal in reach.ways(moment).items() if after not in lost]
    # The last one, as the later ones deal more tickets; so fewer stay open, and the book is shorter.
    return found[-1]


def book_of(reach, lost):
    """The book of the moments that come about when the desk never deals its way into a lost scene."""
    chosen = {}
    waiting = [START]
    while waiting:
        number = waiting.pop()
        for moment in reach.moments(number):
            if moment not in chosen:
                after, deal = safe_way(reach, moment, lost)
                chosen[moment] = deal
                waiting.append(after)
    return tuple(sorted([moment + (deal,) for moment, deal in chosen.items()]))


def keep(desk, stream):
    """A book by which the desk keeps every promise, or a paper by which the stream breaks one."""
    check_both(desk, stream)
    reach = explored(desk, stream)
    lost = lost_scenes(reach)
    if START in lost:
        return "paper", paper_of(reach, lost)
    return "book", book_of(reach, lost)


def rounds(desk, stream):
    """The fewest rounds within which the stream can break a promise whatever the desk does, or None."""
    check_both(desk, stream)
    lost = lost_scenes(explored(desk, stream))
    if START not in lost:
        return None
    return lost[START][0]
