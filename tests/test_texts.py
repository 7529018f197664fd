"""Promises 11 and 39: desks and streams as texts."""

import random
import unittest

from promisedesk.desks import Desk, Stream
from promisedesk.errors import BadKind, BadState, BadSyntax, BadValue
from promisedesk.texts import parse, printed

from samples import CROWD, CROWD_STREAM, DESK, DRIP, FLOW, FREE, ODD, STREAM, STUCK, Raises
from slow import random_desk, random_stream

DESK_TEXT = "desk 2\nkind 2 4 0 - apart\nkind 1 2 0,1 0 joins\nkind 3 5 1 0,1 apart\n"
STREAM_TEXT = "stream\nstate 0,1>1 ->0 0,0,0>0 1,1,2>1\nstate 2,2>0 1>1\n"

# No numbers of a text.
NO_NUMBERS = ("", "-", "00", "01", "0001", "10000", "00000", "99999", "-1", "+1", "1.", "1a", "a", "x", "1,", ",1", "1_0",
              "0x1", "1e1", "(1)", "#")


class PrintedTest(Raises):

    def test_desks(self):
        self.assertEqual(printed(DESK), DESK_TEXT)
        self.assertEqual(printed(Desk(1, ((1, 1, (), (), False),))), "desk 1\nkind 1 1 - - apart\n")
        self.assertEqual(printed(Desk(3, ((4, 12, (0, 1, 2), (), True), (2, 10, (0, 2), (0,), True)))),
                         "desk 3\nkind 4 12 0,1,2 - joins\nkind 2 10 0,2 0 joins\n")
        self.assertEqual(printed(STUCK), "desk 1\nkind 1 3 - - apart\nkind 1 2 0 0 apart\n")

    def test_streams(self):
        self.assertEqual(printed(STREAM), STREAM_TEXT)
        self.assertEqual(printed(Stream(((((), 0),),))), "stream\nstate ->0\n")
        self.assertEqual(printed(DRIP), "stream\nstate 0,1>0 1>0 ->0\n")

    def test_what_is_printed_parses_back(self):
        rng = random.Random("printed")
        values = [DESK, STREAM, FREE, FLOW, STUCK, DRIP, CROWD, CROWD_STREAM]
        for _ in range(200):
            desk = random_desk(rng)
            values += [desk, random_stream(rng, len(desk.kinds))]
        for value in values:
            text = printed(value)
            self.assertIs(type(text), str)
            found = parse(text)
            self.assertIs(type(found), type(value))
            self.assertTrue(found == value)
            self.assertEqual(printed(found), text)

    def test_no_desk_and_no_stream(self):
        for value in ODD + (DESK_TEXT, DESK.kinds, STREAM.states, (), Desk, BadValue(1)):
            self.assert_at(BadValue, 1, printed, value)

    def test_names_of_arguments(self):
        self.assertEqual(printed(value=DESK), DESK_TEXT)
        self.assertEqual(parse(text=DESK_TEXT), DESK)
        for made in (printed, parse):
            self.assertEqual(made.__module__, "promisedesk.texts")


class ParseTest(Raises):

    def assert_wrong(self, at, *texts):
        for text in texts:
            self.assert_at(BadSyntax, at, parse, text)

    def test_desks_and_streams(self):
        self.assertEqual(parse(DESK_TEXT), DESK)
        self.assertEqual(parse(STREAM_TEXT), STREAM)
        self.assertIs(type(parse(DESK_TEXT).kinds[2]), tuple)
        self.assertEqual(parse("desk 1\nkind 1 1 - - joins\n"), Desk(1, ((1, 1, (), (), True),)))

    def test_what_parses_prints_back(self):
        texts = [DESK_TEXT, STREAM_TEXT, "stream\nstate ->0\n", "desk 3\nkind 4 12 0,1,2 - joins\n"]
        for text in texts:
            self.assertEqual(printed(parse(text)), text)

    def test_changed_texts_are_wrong_or_print_back(self):
        rng = random.Random("changed")
        told = 0
        for _ in range(6000):
            text = rng.choice((DESK_TEXT, STREAM_TEXT))
            for _ in range(rng.choice((1, 1, 2))):
                at = rng.randrange(len(text))
                text = text[:at] + rng.choice(("", rng.choice("0123 ,->\nadk"))) + text[at + rng.choice((0, 1)):]
            try:
                value = parse(text)
            except (BadSyntax, BadValue, BadKind, BadState):
                continue
            told += 1
            self.assertEqual(printed(value), text)
        self.assertGreater(told, 300)

    def test_no_string(self):
        for value in ODD + (DESK, STREAM, b"desk 1\n", ["desk 1\n"]):
            if not isinstance(value, str):
                self.assert_at(BadValue, 1, parse, value)

    def test_without_a_line(self):
        self.assert_wrong(0, "", "desk 1", "stream", "x", " ", "desk 1 ", "state ->0", "x" * 60000)
        self.assert_wrong(0, "\n", "\n\n", "\ndesk 1\n", "\nstream\nstate ->0\n", "\n" * 60000)

    def test_without_a_kind_or_a_state(self):
        self.assert_wrong(1, "desk 1\n", "stream\n", "desk 0\n", "desk 9999\n")

    def test_without_a_line_feed_at_the_end(self):
        self.assert_wrong(1, "desk 1\nkind 1 1 - - apart", "stream\nstate ->0", "desk 1\nx", "stream\n ")
        self.assert_wrong(2, "desk 1\nkind 1 1 - - apart\nkind 1 1 - - apart", "stream\nstate ->0\nx")
        self.assert_wrong(2, "desk 1\nkind 1 1 - - apart\n ", "stream\nstate ->0\nstate ->0")
        # Also ahead of the errors of Desk and Stream.
        self.assert_wrong(2, "desk 0\nkind 9 1 - - apart\nk", "stream\nstate ->9\ns")

    def test_the_first_wrong_line(self):
        good = "kind 1 1 - - apart\n"
        self.assert_wrong(0, "desk x\nkind\n", "desks 1\n" + good, "desk 1\r\n" + good, "streams\nstate ->0\n", "x\ny")
        self.assert_wrong(1, "desk 1\nkind\nkind\n", "desk 1\n\n" + good, "desk 1\nkind 1 1 - - both\nx")
        self.assert_wrong(2, "desk 1\n" + good + "\n", "desk 1\n" + good + "x\n" + good + "y", "desk 1\n" + good + " \n")
        self.assert_wrong(3, "stream\nstate ->0\nstate ->1\nstate\n", "stream\nstate ->0\nstate ->1\n\n\n")
        # A line that is wrong stands ahead of the errors of Desk and Stream.
        self.assert_wrong(4, "desk 0\n" + "kind 9 99 - - apart\n" * 3 + "kind\n", "stream\n" + "state ->9\n" * 3 + "x\n")

    def test_lines_of_the_other_kind(self):
        self.assert_wrong(1, "desk 1\nstate ->0\n", "stream\nkind 1 1 - - apart\n", "desk 1\ndesk 1\n", "stream\nstream\n")
        self.assert_wrong(0, "kind 1 1 - - apart\n", "state ->0\n")
        self.assert_wrong(2, "stream\nstate ->0\nkind 1 1 - - apart\n", "desk 1\nkind 1 1 - - apart\nstream\n")

    def test_first_lines(self):
        kind, state = "kind 1 1 - - apart\n", "state ->0\n"
        for line in ("desk", "desk ", "desk  1", " desk 1", "desk 1 ", "desk 1 1", "Desk 1", "desk1", "desk 1,2", "desk -"):
            self.assert_wrong(0, line + "\n" + kind)
        for line in ("stream ", " stream", "stream 1", "Stream", "stream\t", "streamstream"):
            self.assert_wrong(0, line + "\n" + state)
        for word in NO_NUMBERS:
            self.assert_wrong(0, f"desk {word}\n" + kind)

    def test_blanks(self):
        good = "kind 1 1 0 - apart"
        for line in (good + " ", " " + good, good.replace(" ", "  "), good.replace("1 1", "1  1"), good.replace(" ", "\t"),
                     good.replace("0 -", "0  -"), good[:-6], good + " apart", good.replace(" - ", " "), "kind", "kind "):
            self.assert_wrong(1, f"desk 1\n{line}\n")
        for line in ("state", "state ", "state  ->0", " state ->0", "state ->0 ", "state ->0  ->0", "state - >0",
                     "state -> 0", "state 0, 1>0", "state\t->0", "state->0"):
            self.assert_wrong(1, f"stream\n{line}\n")

    def test_last_words_of_kinds(self):
        for word in ("join", "Joins", "apart,", "", "-", "0", "True", "joinsapart", "joins\r"):
            self.assert_wrong(1, f"desk 1\nkind 1 1 0 - {word}\n")

    def test_numbers(self):
        for word in NO_NUMBERS:
            self.assert_wrong(1, f"desk 1\nkind {word} 1 0 - apart\n", f"desk 1\nkind 1 {word} 0 - apart\n")
            self.assert_wrong(1, f"stream\nstate ->{word}\n", f"stream\nstate 0>{word}\n")
        self.assert_wrong(1, "desk 1\nkind 1,2 1 0 - apart\n", "stream\nstate 0>0,1\n", "stream\nstate 0>0>0\n",
                          "stream\nstate >0\n", "stream\nstate 0\n", "stream\nstate 0>\n", "stream\nstate >\n")
        for number in ("0", "5", "10", "1000", "9999"):
            self.assert_at(BadKind, 0, parse, f"desk 1\nkind {number} 1 0 - apart\n")
        for number in ("0", "13", "100", "9999"):
            self.assert_at(BadKind, 0, parse, f"desk 1\nkind 1 {number} 0 - apart\n")

    def test_numbers_joined_by_commas(self):
        for word in NO_NUMBERS + (",", ",,", "0,,1", "0,-", "-,0", "--", "0,01", "0,1,", ",0", "0;1", "0,10000"):
            if word != "-":
                self.assert_wrong(1, f"desk 1\nkind 1 1 {word} - apart\n", f"desk 1\nkind 1 1 0 {word} apart\n",
                                  f"stream\nstate {word}>0\n")
        # Any numbers in any order have the form; Desk and Stream tell then.
        for word in ("1,0", "0,0", "5", "0,9999", "0,0,0,0,0", "3,2,1,0", "2,2"):
            self.assert_at(BadKind, 0, parse, f"desk 3\nkind 1 1 {word} - apart\n")
            self.assert_at(BadKind, 1, parse, f"desk 3\nkind 1 1 0 - apart\nkind 1 1 0 {word} apart\n")
        for word in ("1,0", "5", "0,9999", "0,0,0,0", "3", "2,1,0"):
            self.assert_at(BadState, 0, parse, f"stream\nstate {word}>0\n")

    def test_errors_of_desk(self):
        kind = "kind 1 1 - - apart\n"
        for agents in ("0", "4", "10", "9999"):
            self.assert_at(BadValue, 1, parse, f"desk {agents}\n" + kind)
            self.assert_at(BadValue, 1, parse, f"desk {agents}\n" + kind * 4)
        self.assertEqual(len(parse("desk 1\n" + kind * 3).kinds), 3)
        self.assert_at(BadValue, 2, parse, "desk 1\n" + kind * 4)
        self.assert_at(BadKind, 1, parse, "desk 1\n" + kind + "kind 5 1 - - apart\n" * 2)
        self.assert_at(BadKind, 2, parse, "desk 1\n" + kind * 2 + "kind 1 1 1 - apart\n")
        self.assert_at(BadKind, 0, parse, "desk 1\nkind 1 1 - 0 apart\n" + kind)

    def test_errors_of_stream(self):
        state = "state ->0\n"
        self.assertEqual(len(parse("stream\n" + state * 8)), 8)
        self.assert_at(BadValue, 1, parse, "stream\n" + state * 9)
        self.assert_at(BadValue, 1, parse, "stream\n" + "state ->9\n" * 9)
        self.assertEqual(len(parse("stream\nstate ->0 ->0 ->0 ->0\n").states[0]), 4)
        self.assert_at(BadState, 1, parse, "stream\n" + state + "state ->0 ->0 ->0 ->0 ->0\n" + state)
        self.assert_at(BadState, 2, parse, "stream\n" + state * 2 + "state ->3\n")
        self.assertEqual(parse("stream\n" + state * 2 + "state 2,2,2>2\n").states[2], (((2, 2, 2), 2),))

    def test_long_texts(self):
        self.assert_at(BadValue, 2, parse, "desk 1\n" + "kind 1 1 - - apart\n" * 3000)
        self.assert_wrong(3001, "desk 1\n" + "kind 1 1 - - apart\n" * 3000 + "x\n")
        self.assert_at(BadState, 0, parse, "stream\nstate" + " ->0" * 14000 + "\n")
        self.assert_at(BadKind, 0, parse, "desk 1\nkind 1 1 " + "0," * 20000 + "0 - apart\n")


if __name__ == "__main__":
    unittest.main()
