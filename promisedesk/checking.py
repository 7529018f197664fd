"""The checkers of books, papers and sets, which search for nothing and know no limit of scenes."""

from promisedesk.desks import check_both
from promisedesk.forms import has_length, is_ascending, is_between, is_sequence
from promisedesk.reach import Reach, set_behind
from promisedesk.scenes import MOST_TICKETS_AHEAD, plain_deal, plain_scene
from promisedesk.steps import FIRST, moment_by, moments_of, scene_behind, ways_on


def plain_triple(desk, stream, value):
    """The pair (moment, deal) of a triple of a book in plain tuples, or None if value is no such triple."""
    if not has_length(value, 3, 3):
        return None
    moment = plain_scene(desk, stream, value[:2])
    if moment is None:
        return None
    deal = plain_deal(desk, moment, value[2])
    if deal is None:
        return None
    return moment, deal


def plain_book(desk, stream, value):
    """The deals of the book by moments, or None if value is no book."""
    if not is_sequence(value):
        return None
    found = [plain_triple(desk, stream, triple) for triple in value]
    if None in found or not is_ascending([moment for moment, _ in found]):
        return None
    return {moment: deal for moment, deal in found}


def is_kept_by(desk, stream, scene, chosen):
    """Whether each moment that an arc makes of the scene has a deal among the chosen ones."""
    return all([moment in chosen for moment in moments_of(desk, stream, scene)])


def book_holds(desk, stream, book):
    """Whether book is a book that holds."""
    check_both(desk, stream)
    chosen = plain_book(desk, stream, book)
    if chosen is None or not is_kept_by(desk, stream, FIRST, chosen):
        return False
    for moment, deal in chosen.items():
        behind = scene_behind(moment, deal)
        if behind is None or not is_kept_by(desk, stream, behind, chosen):
            return False
    return True


def plain_line(desk, stream, value):
    """The pair (scene, arc) of a line of a paper in plain tuples, or None if value is no such line."""
    if not has_length(value, 3, 3):
        return None
    scene = plain_scene(desk, stream, value[:2], MOST_TICKETS_AHEAD)
    if scene is None or not is_between(value[2], 0, len(stream.states[scene[0]]) - 1):
        return None
    return scene, value[2]


def plain_paper(desk, stream, value):
    """The pairs (scene, arc) of the paper's lines, or None if value is no paper."""
    if not is_sequence(value):
        return None
    found = [plain_line(desk, stream, line) for line in value]
    if None in found:
        return None
    return found


def paper_holds(desk, stream, paper):
    """Whether paper is a paper that holds."""
    check_both(desk, stream)
    lines = plain_paper(desk, stream, paper)
    if not lines or lines[-1][0] != FIRST:
        return False
    earlier = {}
    for scene, arc in lines:
        ways = ways_on(desk, moment_by(desk, stream, scene, arc))
        if not all([behind in earlier for behind in ways]):
            return False
        earlier[scene] = True
    return True


def plain_set(desk, stream, value):
    """The set as a tuple of plain scenes, or None if value is no ascending sequence of scenes of one state."""
    if not is_sequence(value) or len(value) == 0:
        return None
    found = tuple([plain_scene(desk, stream, scene) for scene in value])
    if None in found or not is_ascending(found):
        return None
    # They ascend by their states first.
    if found[0][0] != found[-1][0]:
        return None
    return found


def plain_sets(desk, stream, value):
    """The sets as a list of tuples of plain scenes, or None if value is no ascending sequence of sets."""
    if not is_sequence(value):
        return None
    found = [plain_set(desk, stream, held) for held in value]
    if None in found or not is_ascending(found):
        return None
    return found


def sets_hold(desk, stream, value):
    """Whether value is a sequence of sets that has, with each set, those that lie one round behind it."""
    check_both(desk, stream)
    found = plain_sets(desk, stream, value)
    if found is None or (FIRST,) not in found:
        return False
    reach = Reach(desk, stream)
    sets = {tuple(sorted([reach.number(scene) for scene in held])): held[0][0] for held in found}
    for held, state in sets.items():
        for arc in range(len(stream.states[state])):
            if set_behind(reach, held, arc) not in sets:
                return False
    return True
