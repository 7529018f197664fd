"""The scenes that lie behind one another, each worked out once and known by a number."""

from promisedesk.errors import TooMany
from promisedesk.steps import FIRST, moments_of, ways_on

MOST_SCENES = 400
# The number of the first scene.
START = 0


class Reach:
    """Scenes of a desk and a stream, numbered as they are met; the first scene is number START.

    It sets no limit of its own, as the checkers know none.
    """

    def __init__(self, desk, stream):
        self.desk = desk
        self.stream = stream
        self.scenes = [FIRST]
        self._numbers = {FIRST: START}
        self._moments = {}
        self._ways = {}
        self._behind = {}

    def number(self, scene):
        """The number of the scene, a new one if it is met for the first time."""
        if scene not in self._numbers:
            self._numbers[scene] = len(self.scenes)
            self.scenes.append(scene)
        return self._numbers[scene]

    def moments(self, number):
        """The moments that the arcs make of the scene, arc by arc."""
        if number not in self._moments:
            self._moments[number] = moments_of(self.desk, self.stream, self.scenes[number])
        return self._moments[number]

    def ways(self, moment):
        """The scenes, by numbers, behind the moment by deals that break no promise, each with one such deal."""
        if moment not in self._ways:
            found = ways_on(self.desk, moment)
            self._ways[moment] = {self.number(scene): deal for scene, deal in found.items()}
        return self._ways[moment]

    def behind(self, number):
        """The scenes that lie one round behind the scene, as a list of numbers for each arc."""
        if number not in self._behind:
            self._behind[number] = [list(self.ways(moment)) for moment in self.moments(number)]
        return self._behind[number]


def explored(desk, stream):
    """The reach that has met all scenes of the desk and the stream."""
    reach = Reach(desk, stream)
    at = 0
    while at < len(reach.scenes):
        reach.behind(at)
        if len(reach.scenes) > MOST_SCENES:
            raise TooMany("scenes")
        at += 1
    return reach


def set_behind(reach, held, arc):
    """The ascending tuple of the scenes that lie one round by the arc behind any of those held, by numbers."""
    return tuple(sorted({behind for number in held for behind in reach.behind(number)[arc]}))
