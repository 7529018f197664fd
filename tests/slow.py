"""Second, slow ways to what is searched for and checked, word by word, by whole rounds and all deals alone."""

import random

from promisedesk.desks import Desk, Stream
from promisedesk.scenes import come, deals, dealt, is_scene

START = (0, ())


def random_desk(rng):
    agents = rng.randint(1, 3)
    kinds = []
    for kind in range(rng.randint(1, 3)):
        able = [agent for agent in range(agents) if rng.random() < 0.7]
        ahead = [other for other in range(kind) if rng.random() < 0.3]
        kinds.append((rng.randint(1, 3), rng.randint(1, 4), able, ahead, rng.random() < 0.35))
    return Desk(agents, kinds)


def random_stream(rng, kinds):
    many = rng.randint(1, 3)
    states = []
    for _ in range(many):
        arcs = []
        for _ in range(rng.randint(1, 3)):
            coming = sorted(rng.randrange(kinds) for _ in range(rng.choice((0, 0, 1, 1, 1, 2, 3))))
            arcs.append((coming, rng.randrange(many)))
        states.append(arcs)
    return Stream(states)


def small_places(seed, count, most=60):
    """Some desks and streams of at most so many scenes, each a triple (desk, stream, scenes)."""
    rng = random.Random(seed)
    found = []
    while len(found) < count:
        desk = random_desk(rng)
        stream = random_stream(rng, len(desk.kinds))
        scenes = scenes_slow(desk, stream, most)
        if len(scenes) <= most:
            found.append((desk, stream, scenes))
    return found


def behind_moment(desk, stream, moment):
    """The scenes behind the moment by all deals that break no promise."""
    found = [dealt(desk, stream, moment, deal) for deal in deals(desk, stream, moment)]
    return {scene for scene in found if scene is not None}


def moments_slow(desk, stream, scene):
    return [come(desk, stream, scene, arc) for arc in range(len(stream.states[scene[0]]))]


def scenes_slow(desk, stream, most):
    """All scenes in the order in which they are found, or some more than most of them."""
    found = [START]
    known = {START}
    for scene in found:
        for moment in moments_slow(desk, stream, scene):
            fresh = behind_moment(desk, stream, moment) - known
            known |= fresh
            found.extend(sorted(fresh))
        if len(found) > most:
            break
    return found


def rounds_slow(desk, stream, scenes):
    """The fewest rounds within which a promise can be broken whatever the desk does, or None."""
    lost = set()
    many = 0
    while START not in lost:
        many += 1
        fresh = {scene for scene in scenes if scene not in lost
                 and any(behind_moment(desk, stream, moment) <= lost for moment in moments_slow(desk, stream, scene))}
        if not fresh:
            return None
        lost |= fresh
    return many


def set_slow(desk, stream, held, arc):
    """The set of scenes one round by the arc behind the scenes held."""
    found = set()
    for scene in held:
        found |= behind_moment(desk, stream, come(desk, stream, scene, arc))
    return tuple(sorted(found))


def course_set(desk, stream, course):
    held = (START,)
    for arc in course:
        held = set_slow(desk, stream, held, arc)
    return held


def arcs_of(stream, held):
    return range(len(stream.states[held[0][0]]))


def sets_slow(desk, stream):
    """(how many rounds the shortest course of an empty set has, or None, and the sets of shorter courses)."""
    known = {(START,)}
    layer = [(START,)]
    behind = {}
    many = 0
    while layer:
        many += 1
        found = set()
        for held, arc in [(held, arc) for held in layer for arc in arcs_of(stream, held)]:
            for scene in held:
                if (scene, arc) not in behind:
                    behind[scene, arc] = behind_moment(desk, stream, come(desk, stream, scene, arc))
            found.add(tuple(sorted(set().union(*(behind[scene, arc] for scene in held)))))
        if () in found:
            return many, tuple(sorted(known))
        layer = sorted(found - known)
        known |= found
    return None, tuple(sorted(known))


def is_ascending(rows):
    return all(one < behind for one, behind in zip(rows, rows[1:]))


def book_slow(desk, stream, book):
    """Whether the tuple of triples (state, tickets, deal) is a book that holds."""
    for state, tickets, deal in book:
        if not is_scene(desk, stream, (state, tickets)) or deal not in deals(desk, stream, (state, tickets)):
            return False
    there = [triple[:2] for triple in book]
    if not is_ascending(there):
        return False
    behind = [START] + [dealt(desk, stream, triple[:2], triple[2]) for triple in book]
    if None in behind:
        return False
    # A scene of more than 37 tickets is none that come takes; so many do not stand in these books.
    return all(moment in there for scene in behind for moment in moments_slow(desk, stream, scene))


def paper_slow(desk, stream, paper):
    """Whether the tuple of lines (state, tickets, arc) is a paper that holds."""
    for state, tickets, arc in paper:
        if not is_scene(desk, stream, (state, tickets)) or arc not in range(len(stream.states[state])):
            return False
    if not paper or paper[-1][:2] != START:
        return False
    for at, (state, tickets, arc) in enumerate(paper):
        earlier = {line[:2] for line in paper[:at]}
        if not behind_moment(desk, stream, come(desk, stream, (state, tickets), arc)) <= earlier:
            return False
    return True


def sets_hold_slow(desk, stream, sets):
    """Whether the tuple of tuples of scenes holds."""
    for held in sets:
        if not held or not all(is_scene(desk, stream, scene) for scene in held):
            return False
        if not is_ascending(held) or len({scene[0] for scene in held}) > 1:
            return False
    if not is_ascending(sets) or (START,) not in sets:
        return False
    return all(set_slow(desk, stream, held, arc) in sets for held in sets for arc in arcs_of(stream, held))


def walk(desk, stream, book, rng, many):
    """Whether dealing by the book keeps every promise in a course of so many rounds."""
    told = {triple[:2]: triple[2] for triple in book}
    scene = START
    for _ in range(many):
        moment = come(desk, stream, scene, rng.randrange(len(stream.states[scene[0]])))
        scene = dealt(desk, stream, moment, told[moment])
        if scene is None:
            return False
    return True


def rounds_by_paper(desk, stream, paper):
    """The most rounds that it takes to break a promise by the paper, whatever the desk does."""
    told = {}
    for state, tickets, arc in paper:
        behind = []
        moment = come(desk, stream, (state, tickets), arc)
        for deal in deals(desk, stream, moment):
            scene = dealt(desk, stream, moment, deal)
            behind.append(0 if scene is None else told[scene])
        told[state, tickets] = 1 + max(behind)
    return told[START]
