"""Promises 12, 14 and 33 (only, longer): desks."""

import unittest
from unittest import mock

from promisedesk.desks import Desk, Stream, longer, only
from promisedesk.errors import BadKind, BadValue

from samples import DESK, KIND, ODD, STREAM, STUCK, Raises, as_lists, is_plain


class DeskTest(Raises):

    def test_properties(self):
        kinds = ((2, 3, (0, 1), (), True), (4, 12, (), (0,), False))
        desk = Desk(2, kinds)
        self.assertEqual(desk.agents, 2)
        self.assertEqual(desk.kinds, kinds)
        self.assertIs(desk.kinds[0][4], True)
        self.assertIs(desk.kinds[1][4], False)

    def test_names_of_arguments(self):
        self.assertEqual(Desk(agents=1, kinds=(KIND,)), Desk(1, (KIND,)))

    def test_properties_are_read_only(self):
        for name in ("agents", "kinds"):
            self.assertIsInstance(vars(Desk)[name], property)

    def test_agents(self):
        for agents in (1, 2, 3):
            self.assertEqual(Desk(agents, (KIND,)).agents, agents)
        for agents in (0, 4, -1, [1], (1,), DESK, STREAM) + ODD:
            self.assert_at(BadValue, 1, Desk, agents, (KIND,))

    def test_number_of_kinds(self):
        for many in (1, 2, 3):
            self.assertEqual(len(Desk(1, (KIND,) * many).kinds), many)
        for kinds in ((), [], (KIND,) * 4, 0, 1, None, True, "abc", "a", {0: KIND}, DESK, STREAM):
            self.assert_at(BadValue, 2, Desk, 1, kinds)

    def test_odd_kinds_raise_what_is_told(self):
        for kinds in ODD:
            if isinstance(kinds, (list, tuple)) and 1 <= len(kinds) <= 3:
                self.assert_at(BadKind, 0, Desk, 1, kinds)
            else:
                self.assert_at(BadValue, 2, Desk, 1, kinds)

    def test_odd_kind(self):
        for kind in ODD + ((), "abcde", KIND[:4], KIND + (0,), 5, [KIND]):
            self.assert_at(BadKind, 0, Desk, 1, (kind,))
            self.assert_at(BadKind, 1, Desk, 1, (KIND, kind, kind))

    def test_work(self):
        for work in (1, 2, 3, 4):
            self.assertEqual(Desk(1, ((work, 1, (), (), False),)).kinds[0][0], work)
        for work in (0, 5, [1], (1,)) + ODD:
            self.assert_at(BadKind, 0, Desk, 1, ((work, 1, (), (), False),))

    def test_promise(self):
        for promise in range(1, 13):
            self.assertEqual(Desk(1, ((1, promise, (), (), False),)).kinds[0][1], promise)
        for promise in (0, 13, [1], (1,)) + ODD:
            self.assert_at(BadKind, 0, Desk, 1, ((1, promise, (), (), False),))

    def test_able(self):
        for able in ((), (0,), (1,), (2,), (0, 2), (1, 2), (0, 1, 2)):
            self.assertEqual(Desk(3, ((1, 1, able, (), False),)).kinds[0][2], able)
        for able in ((0, 0), (1, 0), (3,), (0, 1, 2, 3), (-1,), (False,), (0, True), 0, "0", "", None, {}):
            self.assert_at(BadKind, 0, Desk, 3, ((1, 1, able, (), False),))
        self.assert_at(BadKind, 0, Desk, 1, ((1, 1, (1,), (), False),))
        self.assert_at(BadKind, 0, Desk, 2, ((1, 1, (0, 2), (), False),))

    def test_behind(self):
        for behind in ((), (0,), (1,), (0, 1)):
            self.assertEqual(Desk(1, (KIND, KIND, (1, 1, (), behind, False))).kinds[2][3], behind)
        for behind in ((0, 0), (1, 0), (2,), (-1,), (False,), (0, True), 0, "0", "", None, (0, 1, 2)):
            self.assert_at(BadKind, 2, Desk, 1, (KIND, KIND, (1, 1, (), behind, False)))
        self.assert_at(BadKind, 0, Desk, 1, ((1, 1, (), (0,), False), KIND))
        self.assert_at(BadKind, 1, Desk, 1, (KIND, (1, 1, (), (1,), False), KIND))

    def test_odd_able_and_behind(self):
        for odd in ODD:
            self.assert_at(BadKind, 0, Desk, 3, ((1, 1, odd, (), False),))
            self.assert_at(BadKind, 1, Desk, 3, (KIND, (1, 1, (), odd, False)))

    def test_joins(self):
        for joins in (0, 1, None, "joins", "", [], (True,), 10 ** 29):
            self.assert_at(BadKind, 0, Desk, 1, ((1, 1, (), (), joins),))

    def test_true_is_no_integer(self):
        self.assert_at(BadValue, 1, Desk, True, (KIND,))
        self.assert_at(BadKind, 0, Desk, 1, ((True, 1, (), (), False),))
        self.assert_at(BadKind, 0, Desk, 1, ((1, True, (), (), False),))

    def test_first_wrong_kind_is_named(self):
        wrong = (0, 1, (), (), False)
        self.assert_at(BadKind, 0, Desk, 1, (wrong, wrong, KIND))
        self.assert_at(BadKind, 1, Desk, 1, (KIND, wrong, wrong))
        self.assert_at(BadKind, 2, Desk, 1, [KIND, KIND, wrong])

    def test_errors_in_their_order(self):
        wrong = (0, 1, (), (), False)
        self.assert_at(BadValue, 1, Desk, 0, ())
        self.assert_at(BadValue, 1, Desk, None, (wrong,))
        self.assert_at(BadValue, 2, Desk, 1, (wrong,) * 4)

    def test_lists_for_tuples(self):
        desk = Desk(2, [[1, 2, [0, 1], [], True], (1, 3, [], [0], False)])
        self.assertEqual(desk.kinds, ((1, 2, (0, 1), (), True), (1, 3, (), (0,), False)))
        self.assertTrue(is_plain(desk.kinds))

    def test_no_own_classes_of_tuples_are_kept(self):
        class Row(tuple):
            pass
        self.assertTrue(is_plain(Desk(1, Row([Row([1, 2, Row([0]), Row(), True])])).kinds))

    def test_later_changes_have_no_effect(self):
        able, behind = [0, 1], [0]
        kind = [1, 2, able, behind, True]
        kinds = [[1, 1, [], [], False], kind]
        desk = Desk(2, kinds)
        told = desk.kinds
        able.pop()
        behind.clear()
        kind[0] = 4
        kinds.append(KIND)
        self.assertEqual(desk.kinds, ((1, 1, (), (), False), (1, 2, (0, 1), (0,), True)))
        self.assertEqual(told, desk.kinds)

    def test_passed_lists_are_not_changed(self):
        kinds = [[1, 1, [0], [], False], [1, 2, [0, 1], [0], True]]
        Desk(2, kinds)
        self.assertEqual(kinds, [[1, 1, [0], [], False], [1, 2, [0, 1], [0], True]])

    def test_equality(self):
        self.assertTrue(Desk(1, [list(KIND)]) == Desk(1, (KIND,)))
        self.assertFalse(Desk(1, [list(KIND)]) != Desk(1, (KIND,)))
        for other in (Desk(2, (KIND,)), Desk(1, (KIND, KIND)), Desk(1, ((1, 2, (0,), (), False),)),
                      Desk(1, ((1, 1, (0,), (), True),)), Desk(1, ((1, 1, (), (), False),))):
            self.assertFalse(Desk(1, (KIND,)) == other)
            self.assertTrue(Desk(1, (KIND,)) != other)

    def test_equals_nothing_else(self):
        desk = Desk(1, (KIND,))
        for other in (1, None, (1, (KIND,)), [1, [KIND]], desk.kinds, "desk", STREAM, mock.ANY):
            self.assertIs(desk.__eq__(other), False)
            self.assertTrue(desk != other)


class OnlyTest(Raises):

    def test_only(self):
        desk = Desk(3, ((2, 4, (0, 1, 2), (), True), (1, 3, (1,), (0,), False), (1, 1, (), (), False)))
        self.assertEqual(only(desk, (0, 2)).kinds,
                         ((2, 4, (0, 2), (), True), (1, 3, (), (0,), False), (1, 1, (), (), False)))
        self.assertEqual(only(desk, [1]).kinds,
                         ((2, 4, (1,), (), True), (1, 3, (1,), (0,), False), (1, 1, (), (), False)))
        self.assertEqual(only(desk, ()).kinds,
                         ((2, 4, (), (), True), (1, 3, (), (0,), False), (1, 1, (), (), False)))
        self.assertEqual(only(desk, (0, 1, 2)), desk)

    def test_agents_stay_as_many(self):
        self.assertEqual(only(Desk(3, (KIND,)), ()).agents, 3)
        self.assertIsInstance(only(Desk(3, (KIND,)), (2,)), Desk)

    def test_desk_is_not_changed(self):
        desk = Desk(2, ((1, 1, (0, 1), (), False),))
        only(desk, (0,))
        longer(desk, 3)
        self.assertEqual(desk, Desk(2, ((1, 1, (0, 1), (), False),)))

    def test_names_of_arguments(self):
        self.assertEqual(only(desk=DESK, agents=(0, 1)), DESK)
        self.assertEqual(longer(desk=DESK, more=0), DESK)

    def test_later_changes_have_no_effect(self):
        agents = [0, 1]
        desk = only(DESK, agents)
        agents.pop()
        self.assertEqual(desk, DESK)
        self.assertTrue(is_plain(desk.kinds))

    def test_no_desk(self):
        for value in ODD + (STREAM, (), DESK.kinds, as_lists(DESK.kinds)):
            self.assert_at(BadValue, 1, only, value, ())
            self.assert_at(BadValue, 1, only, value, None)

    def test_no_agents_of_the_desk(self):
        for agents in ((0, 0), (1, 0), (2,), (0, 1, 2), (-1,), (False,), (0, True), 0, "0", DESK, STREAM) + ODD:
            self.assert_at(BadValue, 2, only, DESK, agents)
        self.assert_at(BadValue, 2, only, STUCK, (1,))


class LongerTest(Raises):

    def test_longer(self):
        desk = Desk(2, ((2, 4, (0,), (), True), (1, 6, (), (0,), False)))
        for more in range(7):
            self.assertEqual(longer(desk, more),
                             Desk(2, ((2, 4 + more, (0,), (), True), (1, 6 + more, (), (0,), False))))

    def test_up_to_twelve(self):
        desk = Desk(1, ((1, 1, (0,), (), False), (1, 10, (0,), (), False)))
        self.assertEqual([kind[1] for kind in longer(desk, 2).kinds], [3, 12])
        self.assert_at(BadValue, 2, longer, desk, 3)
        self.assertEqual(longer(Desk(1, ((1, 12, (), (), False),)), 0).kinds[0][1], 12)
        self.assert_at(BadValue, 2, longer, Desk(1, ((1, 12, (), (), False), KIND)), 1)

    def test_no_desk(self):
        for value in ODD + (STREAM, (), DESK.kinds):
            self.assert_at(BadValue, 1, longer, value, 0)
            self.assert_at(BadValue, 1, longer, value, None)

    def test_no_number(self):
        for more in (7, -1, (), [], (1,), DESK, STREAM) + ODD:
            self.assert_at(BadValue, 2, longer, Desk(1, (KIND,)), more)


class PlaceTest(unittest.TestCase):

    def test_defined_in_desks(self):
        for made in (Desk, Stream, only, longer):
            self.assertEqual(made.__module__, "promisedesk.desks")


if __name__ == "__main__":
    unittest.main()
