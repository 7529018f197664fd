"""By how much promises have to be longer, and how few agents are enough."""

from promisedesk.desks import MOST_LONGER, PROMISE, Desk, longer, only
from promisedesk.errors import BadValue
from promisedesk.keeping import keep

# So that no promise becomes too long, by however much all are made longer.
MOST_PROMISE_AT_FIRST = 6


def least_more(desk, stream):
    """By how few rounds all promises have to be longer, with a book, and a paper for each lesser number."""
    if not isinstance(desk, Desk) or max([kind[PROMISE] for kind in desk.kinds]) > MOST_PROMISE_AT_FIRST:
        raise BadValue(1)
    papers = []
    for more in range(MOST_LONGER + 1):
        # What is wrong with the stream is told by keep.
        word, found = keep(longer(desk, more), stream)
        if word == "book":
            return more, found, tuple(papers)
        papers.append(found)
    return None


def choices_of(agents, many):
    """All ascending tuples of so many of the agents, as an ascending list."""
    found = [()]
    for _ in range(many):
        found = [chosen + (agent,) for chosen in found for agent in range(agents)
                 if chosen == () or chosen[-1] < agent]
    return found


def fewest_agents(desk, stream):
    """Agents, as few as any, who can keep all promises alone, with a book, and papers for one agent fewer."""
    # The whole desk is asked first: it has the most scenes, so no fewer agents have too many then.
    word, book = keep(desk, stream)
    if word == "paper":
        return None
    papers = []
    for many in range(desk.agents):
        papers_ahead = papers
        papers = []
        for agents in choices_of(desk.agents, many):
            word, found = keep(only(desk, agents), stream)
            if word == "book":
                return agents, found, tuple(papers_ahead)
            papers.append((agents, found))
    return tuple(range(desk.agents)), book, tuple(papers)
