"""Second, slow ways to deal by a ranking, word by word, and rankings to try."""

from itertools import product

from promisedesk.scenes import come, deals, dealt

from slow import START


def all_rows(desk):
    """All rows that fit an agent and a ticket of the desk, whether or not the agent is able."""
    found = []
    for agent, kind in product(range(desk.agents), range(len(desk.kinds))):
        work, promise = desk.kinds[kind][:2]
        found += [(agent, kind, left, time) for left in range(1, work + 1) for time in range(1, promise + 1)]
    return found


def odd_rows(rng):
    """A row of numbers that mostly fit nothing, some of them below 0 or very large."""
    return tuple(rng.choice((-1, -2, 0, 0, 1, 1, 2, 3, 12, 13, 10 ** 29, -10 ** 29)) for _ in range(4))


def random_ranking(rng, desk):
    """Most rows of the desk by their times, or some in any order; and some odd ones among them."""
    rows = all_rows(desk)
    rng.shuffle(rows)
    if rng.random() < 0.7:
        rows.sort(key=lambda row: row[3])
    if rng.random() < 0.4:
        rows = rows[:rng.randint(0, len(rows))]
    for _ in range(rng.choice((0, 0, 3))):
        rows.insert(rng.randint(0, len(rows)), odd_rows(rng))
    found = []
    for row in rows:
        if row not in found:
            found.append(row)
    return found[:200]


def deal_slow(desk, stream, ranking, moment):
    """The deal by the ranking and the numbers of the rows used: a row is, if the deal with its pair is allowed."""
    allowed = deals(desk, stream, moment)
    deal = ()
    used = []
    for at, (agent, *ticket) in enumerate(ranking):
        if agent in [busy for busy, _ in deal]:
            continue
        further = tuple(sorted(deal + ((agent, tuple(ticket)),)))
        if further in allowed:
            deal = further
            used.append(at)
    return deal, used


def round_slow(desk, stream, ranking, scene, arc):
    """The scene behind the round, or None; and the rows used."""
    moment = come(desk, stream, scene, arc)
    deal, used = deal_slow(desk, stream, ranking, moment)
    return dealt(desk, stream, moment, deal), used


def runs_slow(desk, stream, ranking):
    """(the length of a shortest course that breaks a promise, or None; the scenes; the rows used), layer by layer."""
    known = {START}
    layer = {START}
    used = set()
    broken = None
    many = 0
    while layer:
        many += 1
        found = set()
        for scene in layer:
            for arc in range(len(stream.states[scene[0]])):
                behind, rows = round_slow(desk, stream, ranking, scene, arc)
                used.update(rows)
                if behind is None:
                    broken = broken or many
                else:
                    found.add(behind)
        layer = found - known
        known |= found
    return broken, tuple(sorted(known)), used


def run_course(desk, stream, ranking, course):
    """(the number of the first round that breaks a promise, from 1 on, or None; the rows used up to and with it)."""
    scene = START
    used = set()
    for many, arc in enumerate(course, 1):
        scene, rows = round_slow(desk, stream, ranking, scene, arc)
        used.update(rows)
        if scene is None:
            return many, used
    return None, used


def courses_of(stream, many):
    """All courses of so many arcs."""
    found = [((), 0)]
    for _ in range(many):
        found = [(course + (arc,), following) for course, state in found
                 for arc, (_, following) in enumerate(stream.states[state])]
    return [course for course, _ in found]
