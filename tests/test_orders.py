"""Orders and histories, points 9 to 11."""

import copy
import itertools
import unittest

from dimkeepers.boards import keepers_of, things
from dimkeepers.errors import NoOrder
from dimkeepers.orders import can_have, history_of, leaves, order_of
from tests.helpers import (
    boards_with_orders, circle, every_order, example, histories_of, ladder, one_team, orders_by_rule, small_boards,
    small_worlds, three_teams, two_circles,
)

EMPTY = [[], [(0, [])], [(2, [("a", 1, True, []), ("b", 12, True, [])]), (0, []), (1, [("c", 3, True, [])])]]
STRANGE = ["", "X", "a", "no name at all", "x ", "xx", "1"]


def order_in(history, board):
    """The order in which a history has the things of a board."""
    return [thing for thing, _ in history if thing in things(board)]


class CanHave(unittest.TestCase):

    def can(self, expected, board, order):
        with self.subTest(board=board, order=order):
            self.assertIs(expected, every_order(can_have, board=board, order=order))

    def test_the_example(self):
        self.can(True, example(), ["x", "y"])
        self.can(False, example(), ["y", "x"])

    def test_as_the_rows_tell(self):
        board = [(0, [("a", 3, True, ["x", "y"]), ("b", 2, False, ["y", "z"])])]
        self.can(True, board, ["x", "y", "z"])
        for order in ("xzy", "yxz", "yzx", "zxy", "zyx"):
            self.can(False, board, list(order))
        self.can(True, ladder(), list("edabc"))
        self.can(True, ladder(), list("edbac"))

    def test_by_the_rule_against_all_orders_of_small_boards(self):
        for rooms, split in (((2, 2), 2), ((2, 1), 1), ((1, 1, 1), 2)):
            for board in small_boards("xyz", rooms, split):
                had = orders_by_rule(board)
                for order in itertools.permutations(things(board)):
                    self.assertIs(list(order) in had, can_have(board, list(order)), (board, order))

    def test_just_the_orders_that_histories_have(self):
        for boards, left in small_worlds():
            for board in boards:
                had = [order_in(history, board) for history in histories_of(board, left)]
                for order in itertools.permutations(things(board)):
                    self.assertIs(list(order) in had, can_have(board, list(order)), (board, order))

    def test_lists_that_are_no_order(self):
        for order in ([], ["x"], ["y"], ["x", "x"], ["x", "y", "y"], ["x", "x", "y"], ["x", "y", "x", "y"]):
            self.can(False, example(), order)
        for text in STRANGE:
            for order in ([text], [text, "y"], ["x", text], ["x", "y", text], ["x", text, "y"], [text, "x", "y"]):
                self.can(False, example(), order)

    def test_a_board_without_things(self):
        for board in EMPTY:
            self.can(True, board, [])
            for text in ("x", *STRANGE):
                self.can(False, board, [text])

    def test_a_board_that_no_history_leaves(self):
        for board in (circle(), two_circles(), three_teams()):
            for order in itertools.permutations(things(board)):
                self.assertIs(False, can_have(board, list(order)))
            self.can(False, board, [])
            self.can(False, board, ["x"])


class OrderOf(unittest.TestCase):

    def order_is(self, expected, board):
        with self.subTest(board=board):
            self.assertEqual(list(expected), every_order(order_of, board=board))

    def test_least_names_from_the_newest_on(self):
        self.order_is("xy", example())
        self.order_is("edbac", ladder())
        free = [(0, [("a", 3, True, ["c"]), ("b", 1, True, ["a"]), ("d", 2, True, ["b"])])]
        self.order_is("cba", free)
        self.order_is("dcab", one_team(0, ("k", 2, True, ["a", "b"]), ("l", 1, True, ["c"]), ("m", 1, True, ["d"])))

    def test_it_is_the_newest_that_counts_and_not_the_eldest(self):
        # From the eldest on the least names would be a, b, c, d.
        board = one_team(0, ("k", 2, True, ["a", "d"]), ("l", 2, True, ["b", "c"]))
        self.order_is("adbc", board)

    def test_least_as_texts_are_compared(self):
        board = one_team(0, *[(name, 1, True, [thing]) for name, thing in (("a", "b"), ("b", "ab"), ("c", "aa"),
                                                                          ("d", "ba"), ("e", "a"))])
        self.assertEqual(["ba", "b", "ab", "aa", "a"], order_of(board))

    def test_a_board_without_things(self):
        for board in EMPTY:
            self.order_is("", board)

    def test_against_all_orders_of_small_boards(self):
        for board, orders in boards_with_orders():
            self.assertEqual(min(orders, key=lambda order: order[::-1]), order_of(board), board)

    def test_no_order(self):
        too_few = one_team(2, ("a", 1, True, ["x"]), ("b", 1, True, []))
        for board, lot in ((circle(), "xyz"), (two_circles(), "pqxy"), (too_few, "x")):
            before = copy.deepcopy(board)
            refusals = []
            for call in (lambda: order_of(board), lambda: order_of(board=board)):
                with self.assertRaises(NoOrder) as caught:
                    call()
                refusals.append(caught.exception)
            self.assertEqual([list(lot), list(lot)], [refusal.lot for refusal in refusals])
            refusals[0].lot.clear()
            self.assertEqual(list(lot), refusals[1].lot)
            self.assertEqual(before, board)

    def test_no_order_just_where_no_history_leaves_the_board(self):
        for boards, left in small_worlds():
            for board in boards:
                if histories_of(board, left):
                    self.assertTrue(can_have(board, order_of(board)), board)
                else:
                    with self.assertRaises(NoOrder):
                        order_of(board)


class HistoryOf(unittest.TestCase):

    def history_is(self, expected, board, order):
        with self.subTest(board=board, order=order):
            self.assertEqual(expected, every_order(history_of, board=board, order=order))

    def test_the_example(self):
        self.history_is([("x", ["a", "b", "c"]), ("y", ["b", "c"])], example(), ["x", "y"])

    def test_names_rise_over_all_teams(self):
        board = [(0, [("d", 1, False, ["y"]), ("b", 2, True, ["x"])]),
                 (1, [("c", 1, True, ["x"]), ("a", 1, False, ["y"])])]
        self.history_is([("x", ["a", "b", "c", "d"]), ("y", ["a", "d"])], board, ["x", "y"])

    def test_to_those_who_may_have_forgotten_it_till_their_eldest(self):
        board = one_team(0, ("a", 2, False, ["w", "y"]), ("b", 3, True, ["x", "z"]), ("c", 1, False, ["z"]))
        self.history_is([("w", ["a", "c"]), ("x", ["b", "c"]), ("y", ["a", "c"]), ("z", ["b", "c"])], board, list("wxyz"))
        self.history_is([("x", ["a", "b", "c"]), ("w", ["a", "c"]), ("y", ["a", "c"]), ("z", ["b", "c"])], board, list("xwyz"))

    def test_a_thing_told_to_nobody_else(self):
        self.history_is([("x", ["a"]), ("y", ["b"])],
                        one_team(0, ("a", 1, True, ["x"]), ("b", 1, True, ["y"]), ("c", 1, True, [])), ["x", "y"])

    def test_a_board_without_things(self):
        for board in EMPTY:
            self.history_is([], board, [])

    def test_told_so_it_leaves_the_board(self):
        for board, orders in boards_with_orders():
            for order in orders:
                told = history_of(board, order)
                self.assertEqual(order, [thing for thing, _ in told])
                self.assertTrue(leaves(board, told), (board, told))

    def test_to_as_many_as_can_be_of_all_histories_with_the_order(self):
        for boards, left in small_worlds():
            for board in boards:
                most = {}
                for history in histories_of(board, left):
                    # Histories of other things, too, forgotten by all, tell of these no others.
                    had = most.setdefault(tuple(order_in(history, board)), {})
                    for thing, names in history:
                        if thing in things(board):
                            had.setdefault(thing, set()).update(names)
                for order, had in most.items():
                    expected = [(thing, sorted(had[thing])) for thing in order]
                    self.assertEqual(expected, history_of(board, list(order)), board)

    def refused(self, lot, board, order):
        with self.subTest(board=board, order=order):
            before = copy.deepcopy((board, order))
            for call in (lambda: history_of(board, order), lambda: history_of(order=order, board=board)):
                with self.assertRaises(NoOrder) as caught:
                    call()
                self.assertEqual(list(lot), caught.exception.lot)
                self.assertIsInstance(caught.exception.lot, list)
                caught.exception.lot.append("more")
            self.assertEqual(before, (board, order))

    def test_orders_that_the_board_cannot_have(self):
        for order in (["y", "x"], [], ["x"], ["y"], ["x", "x"], ["x", "y", "y"], ["x", "y", "z"]):
            self.refused("", example(), order)
        for text in STRANGE:
            for order in ([text], ["x", text], ["x", "y", text], [text, "x", "y"]):
                self.refused("", example(), order)
                self.refused("", [(0, [])], order)

    def test_any_order_of_a_board_that_has_none(self):
        for board, lot in ((circle(), "xyz"), (two_circles(), "pqxy")):
            for order in ([], things(board), things(board)[::-1], ["x"], ["strange"], list(lot)):
                self.refused(lot, board, order)


class Leaves(unittest.TestCase):

    def leaves(self, expected, board, history):
        with self.subTest(board=board, history=history):
            self.assertIs(expected, every_order(leaves, board=board, history=history))

    def test_histories_that_leave_the_example(self):
        self.leaves(True, example(), [("x", ["a", "b", "c"]), ("y", ["b", "c"])])
        self.leaves(True, example(), [("x", ["a", "b"]), ("y", ["b", "c"])])
        self.leaves(True, example(), [("x", ["a", "c"]), ("y", ["b", "c"])])

    def test_things_that_all_forgot(self):
        self.leaves(True, example(), [("old", ["a", "b"]), ("x", ["a", "b"]), ("y", ["b", "c"])])
        self.leaves(True, example(), [("old", ["a", "b", "c"]), ("elder", ["a", "c"]), ("x", ["a", "c"]), ("y", ["b", "c"])])
        self.leaves(True, one_team(0, ("a", 1, True, ["x"])), [("old", []), ("x", ["a"]), ("new", [])])
        self.leaves(False, example(), [("x", ["a", "b"]), ("y", ["b", "c"]), ("new", ["b", "c"])])
        self.leaves(False, example(), [("x", ["a", "b"]), ("mid", ["a", "b"]), ("y", ["b", "c"])])

    def test_a_telling_out_twice_exchanged(self):
        right = [("x", ["a", "b"]), ("y", ["b", "c"])]
        self.leaves(False, example(), right[:1])
        self.leaves(False, example(), right[1:])
        self.leaves(False, example(), [])
        self.leaves(False, example(), right[::-1])
        self.leaves(False, example(), [right[0], right[0], right[1]])
        self.leaves(False, example(), [right[0], right[1], right[1]])
        self.leaves(False, example(), [("y", ["a", "b"]), *right])

    def test_names_that_do_not_rise(self):
        self.leaves(False, example(), [("x", ["b", "a"]), ("y", ["b", "c"])])
        self.leaves(False, example(), [("x", ["a", "b"]), ("y", ["c", "b"])])
        self.leaves(False, example(), [("x", ["a", "a", "b"]), ("y", ["b", "c"])])
        self.leaves(False, example(), [("x", ["a", "b"]), ("y", ["b", "c", "c"])])

    def test_strange_names(self):
        for name in ("", "d", "A", "aa", "x", "no name at all"):
            self.leaves(False, example(), [("x", sorted(["a", "b", name])), ("y", ["b", "c"])])
            self.leaves(False, example(), [("x", [name]), ("y", ["b", "c"])])
            self.leaves(False, example(), [("old", ["a", "b", name]), ("x", ["a", "b"]), ("y", ["b", "c"])])

    def test_things_that_are_no_names(self):
        board = one_team(0, ("a", 1, False, ["x"]))
        self.leaves(True, board, [("abcdefgh", ["a"]), ("x", ["a"])])
        for thing in ("", "X", "abcdefghi", "a b", "x1", "x ", "no name at all"):
            self.leaves(False, board, [(thing, ["a"]), ("x", ["a"])])
            self.leaves(False, board, [("x", ["a"]), (thing, [])])

    def test_things_twice_that_all_forgot(self):
        board = one_team(0, ("a", 1, False, ["x"]))
        self.leaves(False, board, [("old", ["a"]), ("old", ["a"]), ("x", ["a"])])
        self.leaves(False, board, [("old", []), ("old", []), ("x", ["a"])])
        self.leaves(False, board, [("x", ["a"]), ("x", ["a"])])

    def test_at_least_least_of_each_team(self):
        keepers = ("a", 1, True, ["x"]), ("b", 1, True, ["x"]), ("c", 1, True, [])
        for least in range(4):
            self.leaves(least <= 2, one_team(least, *keepers), [("x", ["a", "b"])])
        board = [(1, [("a", 1, False, ["x"]), ("c", 1, False, ["x"])]), (1, [("b", 1, False, ["x"])])]
        self.leaves(True, board, [("old", ["a", "b"]), ("x", ["a", "b", "c"])])
        self.leaves(True, board, [("old", ["b", "c"]), ("x", ["a", "b", "c"])])
        self.leaves(False, board, [("old", ["a", "c"]), ("x", ["a", "b", "c"])])
        self.leaves(False, board, [("old", ["b"]), ("x", ["a", "b", "c"])])
        self.leaves(False, board, [("old", []), ("x", ["a", "b", "c"])])

    def test_whole_ones_forgot_nothing(self):
        history = [("x", ["a"]), ("y", ["a"]), ("z", ["a"])]
        self.leaves(True, one_team(0, ("a", 3, True, ["x", "y", "z"])), history)
        self.leaves(True, one_team(0, ("a", 4, True, ["x", "y", "z"])), history)
        self.leaves(False, one_team(0, ("a", 2, True, ["y", "z"])), history)
        self.leaves(True, one_team(0, ("a", 2, False, ["y", "z"])), history)
        self.leaves(True, one_team(0, ("a", 2, True, ["y", "z"])), history[1:])

    def test_who_is_not_whole_may_have_forgotten_nothing(self):
        self.leaves(True, one_team(0, ("a", 3, False, ["x", "y", "z"])), [("x", ["a"]), ("y", ["a"]), ("z", ["a"])])

    def test_each_row_as_it_is(self):
        history = [("x", ["a", "b"]), ("y", ["a"]), ("z", ["b"])]
        self.leaves(True, one_team(1, ("a", 2, True, ["x", "y"]), ("b", 1, False, ["z"])), history)
        for first, second in ((["y", "x"], ["z"]), (["y"], ["z"]), (["x"], ["z"]), (["x", "y"], ["x"]), ([], ["z"])):
            self.leaves(False, one_team(1, ("a", 2, True, first), ("b", 1, False, second)), history)

    def test_a_board_without_things(self):
        for board in EMPTY:
            self.leaves(True, board, [])
            if keepers_of(board):
                self.leaves(False, board, [("x", ["a", "b", "c"])])
        self.leaves(True, [], [("x", [])])
        self.leaves(False, [], [("x", ["a"])])

    def test_a_board_that_no_history_leaves(self):
        self.leaves(False, circle(), [])
        self.leaves(False, circle(), [("z", ["a"]), ("x", ["a", "b"]), ("y", ["a", "b", "c"]), ("w", ["c"])])

    def test_against_all_histories(self):
        for found, rooms, split in (("xyz", (2, 1), 2), ("xyz", (1, 1), 1)):
            pool = [[(thing, list(some)) for thing, some in zip(row, told)]
                    for many in range(4) for row in itertools.permutations(found, many)
                    for told in itertools.product(([], ["a"], ["b"], ["a", "b"]), repeat=many)]
            left = {}
            for board in small_boards(found, rooms, split):
                for history in pool:
                    heard = [[thing for thing, names in history if name in names] for name in "ab"]
                    teams = [[name for name, _, _, _ in keepers] for _, keepers in board]
                    right = all(len(set(names) & set(team)) >= least for _, names in history
                                for (least, _), team in zip(board, teams))
                    for (_, room, whole, row), had in zip(keepers_of(board), heard):
                        right = right and row == had[-room:] and not (whole and len(had) > room)
                    self.assertIs(right, leaves(board, history), (board, history))
                    left[right] = True
            self.assertEqual(2, len(left))


class HandedOut(unittest.TestCase):

    def test_told_lists_are_the_askers_own(self):
        board = example()
        order = order_of(board)
        told = history_of(board, order)
        order.reverse()
        told[0][1].append("more")
        told[1][1].clear()
        told.append("more")
        self.assertEqual(example(), board)
        self.assertEqual(["x", "y"], order_of(board))
        self.assertEqual([("x", ["a", "b", "c"]), ("y", ["b", "c"])], history_of(board, ["x", "y"]))

    def test_no_two_lists_told_at_once_are_one(self):
        for board in (example(), ladder(), one_team(0, ("a", 1, True, ["x"]), ("b", 1, True, ["y"]))):
            order = order_of(board)
            told = history_of(board, order)
            lists = [order, told, *[names for _, names in told], *[row for _, _, _, row in keepers_of(board)]]
            self.assertEqual(len(lists), len({id(some) for some in lists}))
            self.assertTrue(all(isinstance(telling, tuple) and len(telling) == 2 for telling in told))

    def test_a_row_is_not_told_itself(self):
        board = one_team(0, ("a", 2, True, ["x", "y"]))
        self.assertIsNot(board[0][1][0][3], order_of(board))

    def test_a_board_that_has_been_changed_in_between(self):
        board = one_team(0, ("a", 2, True, ["x", "y"]))
        self.assertTrue(can_have(board, ["x", "y"]))
        self.assertEqual(["x", "y"], order_of(board))
        board[0][1][0][3].reverse()
        self.assertFalse(can_have(board, ["x", "y"]))
        self.assertEqual(["y", "x"], order_of(board))
        self.assertEqual([("y", ["a"]), ("x", ["a"])], history_of(board, ["y", "x"]))
