"""A console that keeps texts by names and answers commands."""

from promisedesk.ahead import knowing
from promisedesk.errors import BadKind, BadState, BadSyntax, BadValue, TooMany
from promisedesk.keeping import keep, rounds
from promisedesk.least import fewest_agents, least_more
from promisedesk.ranks import idle_rows, runs
from promisedesk.texts import parse
from promisedesk.words import joined, joined_or_dash, numbers_of

LETTERS = "abcdefghijklmnopqrstuvwxyz"
MOST_LETTERS = 12
NUMBERS_OF_A_ROW = 4


def say_keep(desk, stream):
    """How many triples the book has, or how many lines the paper."""
    word, found = keep(desk, stream)
    return f"{word} {len(found)}"


def say_rounds(desk, stream):
    """Within how few rounds the stream can break a promise."""
    many = rounds(desk, stream)
    return "never" if many is None else str(many)


def say_found(word, found):
    """A course with its arcs, or how many there are of what else is found."""
    return f"course {joined(found)}" if word == "course" else f"{word} {len(found)}"


def say_knowing(desk, stream):
    """How many sets there are, or the course that can not be kept."""
    word, found = knowing(desk, stream)
    return say_found(word, found)


def say_more(desk, stream):
    """By how much all promises have to be longer."""
    found = least_more(desk, stream)
    return "none" if found is None else str(found[0])


def say_agents(desk, stream):
    """The agents that are enough."""
    found = fewest_agents(desk, stream)
    return "none" if found is None else joined_or_dash(found[0])


def say_runs(desk, stream, ranking):
    """How many scenes come about by the ranking, or the course in which it breaks a promise."""
    word, found = runs(desk, stream, ranking)
    return say_found(word, found)


def say_idle(desk, stream, ranking):
    """The numbers of the rows that are never used."""
    found = idle_rows(desk, stream, ranking)
    return "none" if len(found) == 0 else joined(found)


# What is asked of a desk and a stream, and of these and a ranking, by the first words of commands.
OF_PLACES = {"keep": say_keep, "rounds": say_rounds, "knowing": say_knowing, "more": say_more, "agents": say_agents}
OF_RANKINGS = {"runs": say_runs, "idle": say_idle}

# How many names stand behind the first word of a command.
NAMES = {"line": 1, "clear": 1, "show": 1, "keep": 2, "rounds": 2, "knowing": 2, "more": 2, "agents": 2,
         "runs": 2, "idle": 2}


def is_name(word):
    """Whether the word can be the name of a text."""
    return 1 <= len(word) <= MOST_LETTERS and all([sign in LETTERS for sign in word])


def is_row(word):
    """Whether the word is a row of a ranking."""
    numbers = numbers_of(word)
    return numbers is not None and len(numbers) == NUMBERS_OF_A_ROW


def may_follow(word, rest):
    """Whether these words may stand behind the names of a command with this first word."""
    if word == "line":
        return len(rest) > 0
    if word in OF_RANKINGS:
        return all([is_row(one) for one in rest])
    return len(rest) == 0


def parts_of(command):
    """The first word of the command, the names behind it, and the words behind these; or None if it has no form."""
    words = command.split(" ")
    if words[0] not in NAMES:
        return None
    behind = 1 + NAMES[words[0]]
    names, rest = words[1:behind], words[behind:]
    if len(words) < behind or not all([is_name(name) for name in names]) or not may_follow(words[0], rest):
        return None
    return words[0], names, rest


def said(word, texts, rows):
    """The answer to a question about the texts of a desk and a stream, and the rows of a ranking if it wants one."""
    desk, stream = [parse(text) for text in texts]
    if word in OF_RANKINGS:
        about_ranking = OF_RANKINGS[word]
        return about_ranking(desk, stream, [numbers_of(row) for row in rows])
    about_places = OF_PLACES[word]
    return about_places(desk, stream)


def said_or_error(word, texts, rows):
    """The answer to the question, or the name of the error that is raised."""
    try:
        return said(word, texts, rows)
    except BadValue:
        return "error BadValue"
    except BadKind:
        return "error BadKind"
    except BadState:
        return "error BadState"
    except BadSyntax:
        return "error BadSyntax"
    except TooMany:
        return "error TooMany"


class Console:
    """Texts by names, and the commands that have been answered."""

    def __init__(self):
        self._texts = {}
        self._commands = []

    def run(self, command):
        """The answer to the command."""
        parts = parts_of(command)
        if parts is None:
            raise BadSyntax(0)
        word, names, rest = parts
        answer = self._answer(word, names, rest)
        self._commands.append(command)
        return answer

    def _answer(self, word, names, rest):
        """The answer to a command of right form; the texts are changed if it wants that."""
        if word == "line":
            self._texts[names[0]] = self._texts.get(names[0], "") + " ".join(rest) + "\n"
            return "ok"
        if not all([name in self._texts for name in names]):
            return "error Unknown"
        if word == "clear":
            self._texts[names[0]] = ""
            return "ok"
        texts = [self._texts[name] for name in names]
        if word == "show":
            return texts[0]
        return said_or_error(word, texts, rest)

    def log(self):
        """The commands that have been answered, each followed by a line feed."""
        return "".join([command + "\n" for command in self._commands])

    @staticmethod
    def replayed(log):
        """A Console that has run the commands of the log."""
        if not isinstance(log, str):
            raise BadValue(1)
        commands = log.split("\n")
        rest = commands.pop()
        for at, command in enumerate(commands):
            if parts_of(command) is None:
                raise BadSyntax(at)
        if rest != "":
            raise BadSyntax(len(commands))
        found = Console()
        for command in commands:
            found.run(command)
        return found
