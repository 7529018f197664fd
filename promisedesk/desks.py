"""Desks and streams, which are checked once, when they are made."""

from promisedesk.errors import BadKind, BadState, BadValue
from promisedesk.forms import all_below, has_length, is_ascending_below, is_between, is_rising

MOST_AGENTS = 3
MOST_KINDS = 3
MOST_WORK = 4
MOST_PROMISE = 12
MOST_STATES = 8
MOST_ARCS = 4
MOST_COMING = 3
MOST_LONGER = 6

# The places of what makes up a kind.
WORK = 0
PROMISE = 1
ABLE = 2
BEHIND = 3
JOINS = 4


class Desk:
    """The agents of a desk, and the kinds of tickets that come in at it."""

    def __init__(self, agents, kinds):
        if not is_between(agents, 1, MOST_AGENTS):
            raise BadValue(1)
        if not has_length(kinds, 1, MOST_KINDS):
            raise BadValue(2)
        for at, kind in enumerate(kinds):
            if not is_kind(kind, at, agents):
                raise BadKind(at)
        self._agents = agents
        self._kinds = tuple([plain_kind(kind) for kind in kinds])

    @property
    def agents(self):
        """How many agents there are."""
        return self._agents

    @property
    def kinds(self):
        """The kinds, each a tuple (work, promise, able, behind, joins)."""
        return self._kinds

    def __eq__(self, other):
        return isinstance(other, Desk) and self._agents == other._agents and self._kinds == other._kinds


class Stream:
    """The states of a machine, each arc of which brings some tickets."""

    def __init__(self, states):
        if not has_length(states, 1, MOST_STATES):
            raise BadValue(1)
        for at, state in enumerate(states):
            if not is_state(state, len(states)):
                raise BadState(at)
        self._states = tuple([plain_state(state) for state in states])

    @property
    def states(self):
        """The states, each a tuple of arcs (kinds, next)."""
        return self._states

    def __len__(self):
        return len(self._states)

    def __eq__(self, other):
        return isinstance(other, Stream) and self._states == other._states


def is_kind(value, number, agents):
    """Whether value can be the kind of this number at a desk of so many agents."""
    if not has_length(value, 5, 5):
        return False
    work, promise, able, behind, joins = value
    return (is_between(work, 1, MOST_WORK) and is_between(promise, 1, MOST_PROMISE)
            and is_ascending_below(able, agents) and is_ascending_below(behind, number)
            and isinstance(joins, bool))


def plain_kind(kind):
    """The kind, in tuples of its own."""
    work, promise, able, behind, joins = kind
    return work, promise, tuple(able), tuple(behind), joins


def is_state(value, states):
    """Whether value can be a state of a stream of so many states."""
    return has_length(value, 1, MOST_ARCS) and all([is_arc(arc, states) for arc in value])


def is_arc(value, states):
    """Whether value can be an arc in a stream of so many states."""
    if not has_length(value, 2, 2):
        return False
    kinds, next_state = value
    return (has_length(kinds, 0, MOST_COMING) and all_below(kinds, MOST_KINDS) and is_rising(kinds)
            and is_between(next_state, 0, states - 1))


def plain_state(state):
    """The state, in tuples of its own."""
    return tuple([(tuple(kinds), next_state) for kinds, next_state in state])


def fits(desk, stream):
    """Whether all kinds that come in the stream are kinds of the desk."""
    return all([all_below(kinds, len(desk.kinds)) for state in stream.states for kinds, _ in state])


def check_both(desk, stream):
    """Raise the error for the first of the two that is not as told, if one is not."""
    if not isinstance(desk, Desk):
        raise BadValue(1)
    if not isinstance(stream, Stream) or not fits(desk, stream):
        raise BadValue(2)


def only(desk, agents):
    """The desk in which of the agents that are able for each kind only these are left."""
    if not isinstance(desk, Desk):
        raise BadValue(1)
    if not is_ascending_below(agents, desk.agents):
        raise BadValue(2)
    kinds = []
    for work, promise, able, behind, joins in desk.kinds:
        left = [agent for agent in able if agent in agents]
        kinds.append((work, promise, left, behind, joins))
    return Desk(desk.agents, kinds)


def longer(desk, more):
    """The desk whose promises are longer by so many rounds."""
    if not isinstance(desk, Desk):
        raise BadValue(1)
    if not is_between(more, 0, MOST_LONGER) or max([kind[PROMISE] for kind in desk.kinds]) + more > MOST_PROMISE:
        raise BadValue(2)
    kinds = []
    for work, promise, able, behind, joins in desk.kinds:
        kinds.append((work, promise + more, able, behind, joins))
    return Desk(desk.agents, kinds)
