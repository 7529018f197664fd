"""Promises 1, 5, 6, 7, 8, 10 and 12 across the files: what the functions tell of one another, and plain values."""

import random
import unittest

from promisedesk.ahead import knowing, scenes_behind
from promisedesk.checking import book_holds, paper_holds, sets_hold
from promisedesk.desks import longer, only
from promisedesk.errors import TooMany
from promisedesk.keeping import keep, rounds
from promisedesk.least import fewest_agents, least_more
from promisedesk.ranks import deal_by, idle_rows, runs
from promisedesk.scenes import come, dealt

from samples import is_plain
from slow import START, small_places
from slow_ranks import all_rows, random_ranking

PLACES = small_places("wholes", 120)

ENDLESS = 10 ** 9


def length_of(told, closed):
    """How long the course is, endless if there is none."""
    word, found = told
    return ENDLESS if word == closed else len(found)


def books_ranking(book):
    """A ranking that deals by the book, if there is one; the rows of moments of many tickets stand ahead."""
    rows = []
    for _, _, deal in sorted(book, key=lambda triple: -len(triple[1])):
        rows += [(agent, *ticket) for agent, ticket in deal]
    return list(dict.fromkeys(rows))[:200]


class WholesTest(unittest.TestCase):

    def test_courses_and_rounds(self):
        rng = random.Random("wholes")
        apart = 0
        for desk, stream, _ in PLACES:
            many = rounds(desk, stream) or ENDLESS
            self.assertLessEqual(many, length_of(knowing(desk, stream), "sets"))
            for ranking in ((), random_ranking(rng, desk), random_ranking(rng, desk), all_rows(desk)[:200]):
                found = length_of(runs(desk, stream, ranking), "closed")
                self.assertLessEqual(found, many)
                apart += found < many
        self.assertGreater(apart, 50)

    def test_closed_then_a_book_then_no_course(self):
        rng = random.Random("closed")
        told = []
        for desk, stream, _ in PLACES:
            word, found = keep(desk, stream)
            rankings = [random_ranking(rng, desk)] + ([books_ranking(found)] if word == "book" else [])
            for ranking in rankings:
                if runs(desk, stream, ranking)[0] == "closed":
                    told.append(desk)
                    self.assertEqual(word, "book")
            if word == "book":
                self.assertEqual(knowing(desk, stream)[0], "sets")
                self.assertIsNone(rounds(desk, stream))
        self.assertGreater(len(told), 30)

    def test_a_closed_ranking_makes_a_book_that_holds(self):
        rng = random.Random("book")
        asked = 0
        for desk, stream, _ in PLACES:
            ranking = random_ranking(rng, desk)
            word, scenes = runs(desk, stream, ranking)
            if word == "closed":
                moments = {come(desk, stream, scene, arc) for scene in scenes
                           for arc in range(len(stream.states[scene[0]]))}
                book = [moment + (deal_by(desk, stream, ranking, moment),) for moment in sorted(moments)]
                self.assertTrue(book_holds(desk, stream, book))
                behind = {dealt(desk, stream, triple[:2], triple[2]) for triple in book}
                self.assertEqual(behind | {START}, set(scenes))
                asked += 1
        self.assertGreater(asked, 15)

    def test_a_course_of_a_ranking_need_not_be_one_that_can_not_be_kept(self):
        rng = random.Random("kept")
        asked = 0
        for desk, stream, _ in PLACES:
            word, course = runs(desk, stream, random_ranking(rng, desk))
            if word == "course":
                asked += len(scenes_behind(desk, stream, course)) > 0
        self.assertGreater(asked, 10)

    def test_more_and_agents_beside_keep(self):
        for desk, stream, _ in PLACES:
            word, _ = keep(desk, stream)
            found = fewest_agents(desk, stream)
            self.assertEqual(found is None, word == "paper")
            try:
                more = least_more(desk, stream)
            except TooMany:
                continue
            self.assertEqual(more is not None and more[0] == 0, word == "book")

    def test_what_is_returned_may_be_passed(self):
        for desk, stream, _ in PLACES[:40]:
            word, found = knowing(desk, stream)
            if word == "sets":
                self.assertTrue(sets_hold(desk, stream, found))
            for value in (keep(desk, stream)[1], found, desk.kinds, stream.states):
                told = [check(desk, stream, value) for check in (book_holds, paper_holds, sets_hold)]
                self.assertLessEqual(sum(told), 1)
                self.assertTrue(all(type(one) is bool for one in told))

    def test_plain_values(self):
        rng = random.Random("plain")
        for desk, stream, _ in PLACES[:40]:
            self.assertTrue(is_plain(only(desk, [0]).kinds))
            self.assertTrue(is_plain(longer(desk, 1).kinds))
            found = fewest_agents(desk, stream)
            self.assertTrue(found is None or is_plain(found))
            ranking = [list(row) for row in random_ranking(rng, desk)]
            self.assertTrue(is_plain(idle_rows(desk, stream, ranking)))
            pair = runs(desk, stream, ranking)
            self.assertIs(type(pair), tuple)
            self.assertTrue(is_plain(pair[1]))


if __name__ == "__main__":
    unittest.main()
