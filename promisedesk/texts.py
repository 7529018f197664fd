"""Desks and streams as texts."""

from promisedesk.desks import Desk, Stream
from promisedesk.errors import BadSyntax, BadValue
from promisedesk.words import is_number, joined_or_dash, numbers_or_dash


def printed_kind(kind):
    """The line of a kind."""
    work, promise, able, behind, joins = kind
    last = "joins" if joins else "apart"
    return f"kind {work} {promise} {joined_or_dash(able)} {joined_or_dash(behind)} {last}\n"


def printed_state(state):
    """The line of a state."""
    words = [f"{joined_or_dash(kinds)}>{next_state}" for kinds, next_state in state]
    return " ".join(["state"] + words) + "\n"


def printed(value):
    """The text of a Desk or a Stream."""
    if isinstance(value, Desk):
        return f"desk {value.agents}\n" + "".join([printed_kind(kind) for kind in value.kinds])
    if isinstance(value, Stream):
        return "stream\n" + "".join([printed_state(state) for state in value.states])
    raise BadValue(1)


def agents_by(line):
    """The number of agents by the first line of a desk, or None if the line has another form."""
    words = line.split(" ")
    if len(words) != 2 or words[0] != "desk" or not is_number(words[1]):
        return None
    return int(words[1])


def kind_by(line):
    """The kind by its line, or None if the line has another form."""
    words = line.split(" ")
    if len(words) != 6 or words[0] != "kind" or not is_number(words[1]) or not is_number(words[2]):
        return None
    able = numbers_or_dash(words[3])
    behind = numbers_or_dash(words[4])
    if able is None or behind is None or words[5] not in ("joins", "apart"):
        return None
    return int(words[1]), int(words[2]), able, behind, words[5] == "joins"


def arc_by(word):
    """The arc by its word, or None if the word has another form."""
    parts = word.split(">")
    if len(parts) != 2 or not is_number(parts[1]):
        return None
    kinds = numbers_or_dash(parts[0])
    if kinds is None:
        return None
    return kinds, int(parts[1])


def state_by(line):
    """The state by its line, or None if the line has another form."""
    words = line.split(" ")
    arcs = [arc_by(word) for word in words[1:]]
    if words[0] != "state" or len(arcs) == 0 or None in arcs:
        return None
    return arcs


def rows_by(lines, rest, row_by):
    """What row_by makes of each line but the first one; rest is what stands behind the last line feed."""
    found = []
    for at in range(1, len(lines)):
        row = row_by(lines[at])
        if row is None:
            raise BadSyntax(at)
        found.append(row)
    if len(found) == 0 or rest != "":
        raise BadSyntax(len(lines))
    return found


def parse(text):
    """The Desk or Stream that the text tells."""
    if not isinstance(text, str):
        raise BadValue(1)
    lines = text.split("\n")
    rest = lines.pop()
    if len(lines) > 0 and lines[0] == "stream":
        return Stream(rows_by(lines, rest, state_by))
    agents = agents_by(lines[0]) if len(lines) > 0 else None
    if agents is None:
        raise BadSyntax(0)
    return Desk(agents, rows_by(lines, rest, kind_by))
