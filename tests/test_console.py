"""Promises 11 and 40 to 44: the console, its log, and consoles that replay one."""

import random
import unittest

from promisedesk.ahead import knowing
from promisedesk.console import Console
from promisedesk.desks import Desk, Stream
from promisedesk.errors import BadSyntax, BadValue
from promisedesk.keeping import keep, rounds
from promisedesk.least import fewest_agents, least_more
from promisedesk.ranks import idle_rows, runs
from promisedesk.texts import printed

from samples import CROWD, CROWD_STREAM, DRIP, ODD, STUCK, Raises
from slow import small_places
from slow_ranks import random_ranking, run_course

ONE = Desk(1, ((1, 2, (0,), (), False), (2, 2, (0,), (), False)))
CALM = Stream(((((0,), 0), ((), 0)),))
BUSY = Stream(((((0, 1), 0),),))

PLACES = {"one": ONE, "calm": CALM, "busy": BUSY, "stuck": STUCK, "drip": DRIP, "crowd": CROWD, "flood": CROWD_STREAM}

ASKED = ("keep", "rounds", "knowing", "more", "agents", "runs", "idle")

# Commands that have no form.
NO_FORM = (
    "", " ", "line", "line ", "line a", "line  a b", " line a b", "line A b", "line a1 b", "line abcdefghijklm b",
    "line - b", "Line a b", "lines a b", "linea b", "line\ta b", "line a\tb", "x", "x a b", "log", "run keep a b",
    "clear", "clear ", "clear a ", "clear a b", "clear  a", " clear a", "clear abcdefghijklm", "clear A", "clear a,b",
    "show", "show ", "show a ", "show a b", "show  a", "show 0", "show -", "Show a", "shows a",
    "keep", "keep a", "keep a ", "keep a b ", "keep a b c", "keep  a b", "keep a  b", "keep a b 0,0,1,1", "keep a B",
    "keep a abcdefghijklm", "keep abcdefghijklm a", "rounds a", "rounds a b c", "knowing a", "knowing a b ", "more a",
    "more a b 1", "agents a", "agents a b 0", "agents ab", "keep,a,b",
    "runs", "runs a", "runs a ", "runs a b ", "runs a b c", "runs a b 0", "runs a b 0,0,1", "runs a b 0,0,1,1,1",
    "runs a b 0,0,1,1 ", "runs a b 0,0,1,1  0,0,1,2", "runs a b  0,0,1,1", "runs a b 0,0,1,01", "runs a b 0,0,1,10000",
    "runs a b -1,0,1,1", "runs a b 0,0,1,1,", "runs a b ,0,0,1", "runs a b 0,0,,1", "runs a b 0 0 1 1", "runs a b -",
    "runs a b 0,0,1,+1", "runs a b (0,0,1,1)", "runs a B 0,0,1,1", "runs a 0,0,1,1", "runs a b 0,0,1,1 x",
    "idle", "idle a", "idle a b ", "idle a b 0,0,1", "idle a b 0,0,1,1 ", "idle a b 0,0,1,00", "idle A b",
)


def fill(console, name, text):
    for line in text.split("\n")[:-1]:
        console.run(f"line {name} {line}")


def filled(places=PLACES):
    console = Console()
    for name, value in places.items():
        fill(console, name, printed(value))
    return console


def row_words(ranking):
    return "".join(" " + ",".join(map(str, row)) for row in ranking)


class TextsTest(Raises):

    def test_line_show_and_clear(self):
        console = Console()
        self.assertEqual(console.run("line a desk 1"), "ok")
        self.assertEqual(console.run("show a"), "desk 1\n")
        self.assertEqual(console.run("line a kind 1 2 0 - apart"), "ok")
        self.assertEqual(console.run("line b x"), "ok")
        self.assertEqual(console.run("show a"), "desk 1\nkind 1 2 0 - apart\n")
        self.assertEqual(console.run("clear a"), "ok")
        self.assertEqual(console.run("show a"), "")
        self.assertEqual(console.run("show b"), "x\n")
        self.assertEqual(console.run("line a y"), "ok")
        self.assertEqual(console.run("show a"), "y\n")

    def test_empty_lines_and_lines_with_blanks(self):
        console = Console()
        lines = ("", " ", "  ", "a", " a", "a ", "a b", "a  b", "  a  b  ", "show a", "line a b", "\\n", "0,1>2", "~!\"'")
        for line in lines:
            self.assertEqual(console.run("line text " + line), "ok")
        self.assertEqual(console.run("show text"), "".join(line + "\n" for line in lines))
        self.assertEqual(console.log(), "".join(f"line text {line}\n" for line in lines) + "show text\n")

    def test_long_lines(self):
        console = Console()
        for sign in ("x", " ", "x "):
            self.assertEqual(console.run("line a " + sign * 20000), "ok")
        self.assertEqual(len(console.run("show a")), 80003)

    def test_names_of_one_to_twelve_letters(self):
        for name in ("a", "z", "line", "desk", "abcdefghijkl", "mnopqrstuvwx", "yyyyyyyyyyzz"):
            console = Console()
            self.assertEqual(console.run(f"line {name} x"), "ok")
            self.assertEqual(console.run(f"show {name}"), "x\n")
            self.assertEqual(console.run(f"clear {name}"), "ok")
            for verb in ASKED:
                self.assertEqual(console.run(f"{verb} {name} {name}"), "error BadSyntax")
        for name in ("abcdefghijklm", "A", "aB", "a1", "a-b", "", "a_b", "a."):
            console = Console()
            for command in (f"line {name} x", f"clear {name}", f"show {name}", f"keep {name} a", f"runs a {name}"):
                self.assert_at(BadSyntax, 0, console.run, command)
            self.assertEqual(console.log(), "")

    def test_names_that_are_not_known(self):
        console = Console()
        console.run("line a x")
        for command in ("show b", "clear b", "clear aa"):
            self.assertEqual(console.run(command), "error Unknown")
        # Not known after that either.
        self.assertEqual(console.run("show b"), "error Unknown")
        for verb in ASKED:
            for names in ("a b", "b a", "b b", "b c"):
                self.assertEqual(console.run(f"{verb} {names}"), "error Unknown")
        self.assertEqual(console.run("runs a b 0,0,1,1 0,0,1,1"), "error Unknown")
        self.assertEqual(console.run("show a"), "x\n")

    def test_a_cleared_name_stays_known(self):
        console = Console()
        console.run("line a x")
        console.run("clear a")
        self.assertEqual(console.run("clear a"), "ok")
        self.assertEqual(console.run("show a"), "")
        self.assertEqual(console.run("keep a a"), "error BadSyntax")

    def test_verbs_are_names_too(self):
        console = Console()
        self.assertEqual(console.run("line keep line keep x"), "ok")
        self.assertEqual(console.run("show keep"), "line keep x\n")


class AnswersTest(Raises):

    def test_what_is_answered(self):
        console = filled()
        for command, answer in (
                ("keep one calm", "book 2"), ("keep one busy", f"paper {len(keep(ONE, BUSY)[1])}"),
                ("rounds one calm", "never"), ("rounds one busy", "2"), ("rounds stuck drip", "2"),
                ("knowing one calm", "sets 2"), ("knowing one busy", "course 0,0"),
                ("more one calm", "0"), ("agents one calm", "0"), ("agents one busy", "none"),
                ("runs one calm 0,0,1,2", "closed 1"), ("runs one calm 0,0,1,1", "closed 2"),
                ("runs one busy 0,0,1,2 0,1,2,2", "course 0,0"),
                ("idle one calm 0,0,1,2", "none"), ("idle one calm 0,0,1,1 0,0,1,2", "0"),
                ("idle one calm 9,9,9,9 0,0,1,2 9999,0,0,0", "0,2"), ("idle one calm", "none")):
            self.assertEqual(console.run(command), answer, command)

    def test_more_and_agents(self):
        console = filled({"calm": CALM, "late": Desk(1, ((4, 1, (0,), (), True),)),
                          "never": Desk(3, ((1, 1, (), (), False),)), "quiet": Stream(((((), 0),),)),
                          "once": Stream(((((0,), 1),), (((), 1),))),
                          "trio": Desk(3, ((1, 1, (0, 1, 2), (), False),)), "three": Stream(((((0, 0, 0), 0),),)),
                          "last": Desk(3, ((1, 2, (2,), (), False),))})
        for command, answer in (("more late calm", "3"), ("more late quiet", "0"), ("more never once", "none"),
                                ("agents late quiet", "-"), ("agents never quiet", "-"), ("agents never calm", "none"),
                                ("agents trio three", "0,1,2"), ("agents last calm", "2")):
            self.assertEqual(console.run(command), answer, command)

    def test_rankings_with_none_or_more_rows(self):
        console = filled()
        self.assertEqual(len(console.run("runs one calm").split(",")), 2)
        self.assertEqual(console.run("runs one calm")[:7], "course ")
        rows = [(0, 5, 5, at) for at in range(199)]
        self.assertEqual(console.run("runs one calm" + row_words(rows + [(0, 0, 1, 2)])), "closed 1")
        self.assertEqual(console.run("idle one calm" + row_words(rows + [(0, 0, 1, 2)])), ",".join(map(str, range(199))))
        rows = [(0, 5, 5, at) for at in range(201)]
        for verb in ("runs", "idle"):
            self.assertEqual(console.run(f"{verb} one calm" + row_words(rows)), "error BadValue")
            self.assertEqual(console.run(f"{verb} one calm 0,0,1,1 0,0,1,1"), "error BadValue")

    def test_the_same_as_the_functions(self):
        rng = random.Random("console")
        told = []
        for desk, stream, _ in small_places("console", 60):
            console = filled({"desk": desk, "stream": stream})
            word, found = keep(desk, stream)
            answer = console.run("keep desk stream").split(" ")
            self.assertEqual(answer[0], word)
            self.assertGreaterEqual(int(answer[1]), 1)
            self.assertEqual(answer[1], str(len(found)))
            many = rounds(desk, stream)
            self.assertEqual(console.run("rounds desk stream"), "never" if many is None else str(many))
            word, found = knowing(desk, stream)
            said = str(len(found)) if word == "sets" else ",".join(map(str, found))
            self.assertEqual(console.run("knowing desk stream"), f"{word} {said}")
            found = fewest_agents(desk, stream)
            said = "none" if found is None else ",".join(map(str, found[0])) or "-"
            self.assertEqual(console.run("agents desk stream"), said)
            ranking = [row for row in random_ranking(rng, desk) if 0 <= min(row) and max(row) < 10000]
            word, found = runs(desk, stream, ranking)
            said = str(len(found)) if word == "closed" else ",".join(map(str, found))
            self.assertEqual(console.run("runs desk stream" + row_words(ranking)), f"{word} {said}")
            if word == "course":
                course = list(map(int, said.split(",")))
                self.assertEqual(run_course(desk, stream, ranking, course)[0], len(found))
            said = ",".join(map(str, idle_rows(desk, stream, ranking))) or "none"
            self.assertEqual(console.run("idle desk stream" + row_words(ranking)), said)
            told.append(word)
        self.assertGreater(told.count("closed"), 5)
        self.assertGreater(told.count("course"), 5)

    def test_more_is_the_same_as_the_function(self):
        console = filled()
        for names, desk, stream in (("one calm", ONE, CALM), ("stuck calm", STUCK, CALM)):
            found = least_more(desk, stream)
            self.assertEqual(console.run("more " + names), "none" if found is None else str(found[0]))

    def test_the_same_texts_give_the_same_answers(self):
        first, second = filled(), filled()
        for verb in ASKED:
            for names in ("one calm", "one busy", "stuck drip"):
                answer = first.run(f"{verb} {names}")
                self.assertIs(type(answer), str)
                self.assertEqual(first.run(f"{verb} {names}"), answer)
                self.assertEqual(second.run(f"{verb} {names}"), answer)


class ErrorsTest(Raises):

    def test_each_error(self):
        console = filled()
        fill(console, "kind", "desk 1\nkind 1 2 0 - apart\nkind 5 1 - - apart\n")
        fill(console, "state", "stream\nstate ->0\nstate ->2\n")
        fill(console, "value", "desk 4\nkind 1 1 - - apart\n")
        fill(console, "wrong", "desk 1\nkind 1 2 0 -  apart\n")
        for verb in ASKED:
            for names, error in (("value calm", "BadValue"), ("kind calm", "BadKind"), ("one state", "BadState"),
                                 ("wrong calm", "BadSyntax"), ("one wrong", "BadSyntax"), ("one value", "BadValue"),
                                 ("one kind", "BadKind")):
                self.assertEqual(console.run(f"{verb} {names}"), f"error {error}")
        for verb in ASKED:
            self.assertEqual(console.run(f"{verb} crowd flood"), "error BadValue" if verb == "more" else "error TooMany")
        fill(console, "low", printed(Desk(3, [(work, 6, *rest) for work, _, *rest in CROWD.kinds])))
        self.assertEqual(console.run("more low flood"), "error TooMany")

    def test_a_stream_where_a_desk_is_wanted(self):
        console = filled()
        for verb in ASKED:
            for names in ("calm calm", "calm one", "one one"):
                self.assertEqual(console.run(f"{verb} {names}"), "error BadValue")
            # A stream that does not fit.
            fill(console, f"far{verb}", "stream\nstate 2>0\n")
            self.assertEqual(console.run(f"{verb} one far{verb}"), "error BadValue")

    def test_texts_are_parsed_from_left_to_right(self):
        console = filled()
        fill(console, "kind", "desk 1\nkind 5 1 - - apart\n")
        fill(console, "state", "stream\nstate ->2\n")
        fill(console, "wrong", "x\n")
        for verb in ASKED:
            for names, error in (("kind state", "BadKind"), ("state kind", "BadState"), ("wrong kind", "BadSyntax"),
                                 ("kind wrong", "BadKind"), ("state wrong", "BadState"), ("wrong state", "BadSyntax"),
                                 # The second text is parsed ahead of asking what the first one is.
                                 ("calm wrong", "BadSyntax"), ("calm kind", "BadKind"), ("calm state", "BadState")):
                self.assertEqual(console.run(f"{verb} {names}"), f"error {error}")

    def test_a_ranking_that_is_none_is_told_last(self):
        console = filled()
        for verb in ("runs", "idle"):
            self.assertEqual(console.run(f"{verb} crowd flood 0,0,1,1 0,0,1,1"), "error BadValue")
            self.assertEqual(console.run(f"{verb} crowd flood 0,0,1,1"), "error TooMany")

    def test_no_text_is_changed_by_an_error(self):
        console = filled()
        console.run("line wrong x")
        names = list(PLACES) + ["wrong"]
        before = [console.run(f"show {name}") for name in names]
        for verb in ASKED:
            for pair in ("wrong calm", "calm one", "one wrong", "crowd flood", "one nothing"):
                self.assertEqual(console.run(f"{verb} {pair}")[:6], "error ")
        self.assertEqual(console.run("clear nothing"), "error Unknown")
        self.assertEqual([console.run(f"show {name}") for name in names], before)
        self.assertEqual(console.run("show nothing"), "error Unknown")

    def test_commands_of_no_form(self):
        console = filled({"a": ONE, "b": CALM})
        before = console.log()
        for command in NO_FORM:
            self.assert_at(BadSyntax, 0, console.run, command)
        self.assertEqual(console.log(), before)
        self.assertEqual(console.run("show a"), printed(ONE))
        # Also where a name is not known.
        for command in NO_FORM:
            self.assert_at(BadSyntax, 0, Console().run, command)


class LogTest(Raises):

    def assert_alike(self, first, second, commands):
        for command in commands:
            self.assertEqual(first.run(command), second.run(command))
        self.assertEqual(first.log(), second.log())

    def test_log(self):
        console = Console()
        self.assertEqual(console.log(), "")
        console.run("line a ")
        console.run("show b")
        self.assert_at(BadSyntax, 0, console.run, "show")
        console.run("keep a a")
        self.assertEqual(console.log(), "line a \nshow b\nkeep a a\n")
        self.assertEqual(console.log(), "line a \nshow b\nkeep a a\n")

    def test_replayed(self):
        console = filled()
        for command in ("clear busy", "show nothing", "keep one calm", "more one busy", "line busy  x ", "runs one calm"):
            console.run(command)
        found = Console.replayed(console.log())
        self.assertIs(type(found), Console)
        self.assertEqual(found.log(), console.log())
        self.assert_alike(found, console, [f"show {name}" for name in list(PLACES) + ["nothing"]])
        self.assert_alike(found, console, [f"{verb} {names}" for verb in ASKED for names in ("one calm", "one busy", "x y")])
        self.assert_alike(found, Console.replayed(log=console.log()), ["line one x", "show one"])

    def test_any_commands(self):
        rng = random.Random("log")
        names = ("a", "b", "c")
        lines = (printed(ONE) + printed(CALM) + printed(BUSY)).split("\n") + ["desk 1", " "]
        for _ in range(60):
            console = Console()
            for _ in range(25):
                verb = rng.choice(("line",) * 6 + ("clear", "show", "keep", "runs", "agents", "oops"))
                command = f"{verb} {rng.choice(names)}"
                if verb == "line":
                    command += " " + rng.choice(lines)
                elif verb not in ("clear", "show"):
                    command += " " + rng.choice(names)
                if verb == "oops":
                    self.assert_at(BadSyntax, 0, console.run, command)
                else:
                    console.run(command)
            log = console.log()
            self.assertEqual(log.count("\n"), len(log.split("\n")) - 1)
            found = Console.replayed(log)
            self.assertEqual(found.log(), log)
            self.assert_alike(found, console, [f"show {name}" for name in names] + ["keep a b", "runs b c 0,0,1,2"])

    def test_empty_log(self):
        found = Console.replayed("")
        self.assertEqual(found.log(), "")
        self.assertEqual(found.run("show a"), "error Unknown")
        self.assertEqual(found.run("line a x"), "ok")
        self.assertEqual(found.log(), "show a\nline a x\n")

    def test_no_string(self):
        for value in ODD + (b"", b"show a\n", ["show a\n"]):
            if not isinstance(value, str):
                self.assert_at(BadValue, 1, Console.replayed, value)

    def test_lines_of_no_form(self):
        for command in NO_FORM:
            self.assert_at(BadSyntax, 0, Console.replayed, command + "\n")
            self.assert_at(BadSyntax, 0, Console.replayed, command + "\n\n")
            self.assert_at(BadSyntax, 2, Console.replayed, f"line a x\nshow b\n{command}\nshow a\n{command}\n")
            self.assert_at(BadSyntax, 1, Console.replayed, f"show a\n{command}\nshow a")

    def test_no_line_feed_at_the_end(self):
        for log in ("show a", "x", " ", "line a ", "keep a b"):
            self.assert_at(BadSyntax, 0, Console.replayed, log)
        for many in (1, 2, 5):
            for rest in ("show a", "x", " ", "line a x", "show a "):
                self.assert_at(BadSyntax, many, Console.replayed, "line a x\n" * many + rest)

    def test_errors_in_a_log_are_no_errors_of_the_log(self):
        found = Console.replayed("show a\nkeep a b\nline a x\nkeep a a\nruns a a 0,0,0,0 0,0,0,0\n")
        self.assertEqual(found.run("show a"), "x\n")

    def test_two_consoles_side_by_side(self):
        first, second = Console(), Console()
        first.run("line a x")
        self.assertEqual(second.run("show a"), "error Unknown")
        second.run("line a y")
        self.assertEqual(first.run("show a"), "x\n")
        self.assertEqual(second.log(), "show a\nline a y\n")
        third = Console.replayed(first.log())
        third.run("line a z")
        self.assertEqual(first.run("show a"), "x\n")
        first.run("clear a")
        self.assertEqual(third.run("show a"), "x\nz\n")
        self.assertEqual(Console().log(), "")

    def test_places_and_names_of_arguments(self):
        self.assertEqual(Console.__module__, "promisedesk.console")
        for name in ("run", "log", "replayed"):
            self.assertIn(name, vars(Console))
        self.assertEqual(Console().run(command="line a x"), "ok")
        self.assertEqual(Console().replayed("line a x\n").log(), "line a x\n")


if __name__ == "__main__":
    unittest.main()
