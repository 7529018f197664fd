"""What a desk could keep that knew all that will come: the sets of scenes behind courses."""

from promisedesk.desks import check_both
from promisedesk.errors import BadValue, TooMany
from promisedesk.forms import has_length, is_between
from promisedesk.reach import explored, set_behind

MOST_ARCS_BEHIND = 300
MOST_SETS = 300
# The set of the empty course, by numbers of scenes.
FIRST_SET = (0,)


def is_course(stream, value):
    """Whether value is a course of the stream, not too long a one."""
    if not has_length(value, 0, MOST_ARCS_BEHIND):
        return False
    state = 0
    for arc in value:
        if not is_between(arc, 0, len(stream.states[state]) - 1):
            return False
        state = stream.states[state][arc][1]
    return True


def scenes_held(reach, held):
    """The set as the ascending tuple of its scenes."""
    return tuple(sorted([reach.scenes[number] for number in held]))


def scenes_behind(desk, stream, course):
    """The ascending tuple of the scenes that lie behind the course by deals that break no promise."""
    check_both(desk, stream)
    if not is_course(stream, course):
        raise BadValue(3)
    reach = explored(desk, stream)
    held = FIRST_SET
    for arc in course:
        held = set_behind(reach, held, arc)
    return scenes_held(reach, held)


def one_round_on(reach, layer, courses):
    """The sets one arc behind those of the layer that have no course yet, each with its course."""
    found = {}
    for held in layer:
        state = reach.scenes[held[0]][0]
        for arc in range(len(reach.stream.states[state])):
            behind = set_behind(reach, held, arc)
            if behind not in courses and behind not in found:
                found[behind] = courses[held] + (arc,)
    return found


def knowing(desk, stream):
    """The sets of all courses, or a shortest course in which no deals keep all promises."""
    check_both(desk, stream)
    reach = explored(desk, stream)
    courses = {FIRST_SET: ()}
    layer = [FIRST_SET]
    while layer:
        # A whole layer is looked at ahead of counting: sets as far on as an empty one do not count.
        found = one_round_on(reach, layer, courses)
        if () in found:
            return "course", found[()]
        for held, course in found.items():
            courses[held] = course
        if len(courses) > MOST_SETS:
            raise TooMany("sets")
        layer = list(found)
    return "sets", tuple(sorted([scenes_held(reach, held) for held in courses]))
