"""What is barred by a lot, stuck lots, and rounds, points 6 to 8."""

import unittest

from dimkeepers.boards import things
from dimkeepers.lots import barred, rounds, stuck, stuck_shows
from tests.helpers import (
    circle, every_order, example, histories_of, ladder, lots_of, one_team, small_boards, small_worlds, three_teams,
    two_circles,
)


class Barred(unittest.TestCase):

    def bars(self, expected, board, lot, thing):
        with self.subTest(board=board, lot=lot, thing=thing):
            self.assertIs(expected, every_order(barred, board=board, lot=lot, thing=thing))

    def test_the_example(self):
        self.bars(True, example(), ["x", "y"], "x")
        self.bars(False, example(), ["x"], "x")
        self.bars(True, example(), ["y"], "x")
        self.bars(False, example(), [], "x")
        self.bars(False, example(), ["x", "y"], "y")
        self.bars(False, example(), ["x"], "y")
        self.bars(False, example(), ["y"], "y")

    def test_by_a_thing_behind_it_in_a_row(self):
        board = one_team(0, ("a", 3, True, ["x", "y", "z"]))
        self.bars(True, board, ["y"], "x")
        self.bars(True, board, ["z"], "x")
        self.bars(True, board, ["z"], "y")
        self.bars(True, board, ["x", "z"], "y")
        self.bars(False, board, ["x"], "y")
        self.bars(False, board, ["x", "y"], "z")
        self.bars(False, board, ["x", "y", "z"], "z")

    def test_by_any_row_of_any_team(self):
        board = [(0, [("a", 1, True, ["x"])]), (0, [("b", 2, True, ["y"]), ("c", 2, False, ["x", "y"])])]
        self.bars(True, board, ["y"], "x")
        self.bars(False, board, ["x"], "y")

    def test_not_by_itself_nor_by_what_stands_elsewhere(self):
        board = one_team(0, ("a", 2, True, ["w", "x"]), ("b", 2, True, ["y", "z"]))
        for lot in lots_of(["w", "x", "y", "z"]):
            self.bars(False, board, lot, "x")
            self.bars("x" in lot, board, lot, "w")

    def test_not_by_a_thing_behind_others_in_a_row_without_it(self):
        board = one_team(0, ("a", 1, True, ["x"]), ("b", 3, True, ["y", "z", "w"]))
        self.bars(False, board, ["w", "z"], "x")

    def test_the_thing_may_be_in_the_lot_or_not(self):
        board = one_team(2, ("a", 1, False, ["x"]), ("b", 1, False, ["y"]), ("c", 1, False, ["y"]))
        self.bars(True, board, ["y"], "x")
        self.bars(True, board, ["x", "y"], "x")
        chain = one_team(0, ("a", 2, True, ["x", "y"]))
        self.bars(True, chain, ["y"], "x")
        self.bars(True, chain, ["x", "y"], "x")
        self.bars(False, chain, ["x"], "x")
        self.bars(False, chain, [], "x")

    def test_whole_ones_that_do_not_remember_it_do_not_count(self):
        for row in ([], ["y"], ["y", "z"]):
            board = one_team(2, ("a", 1, False, ["x"]), ("b", 2, True, row))
            for lot in lots_of(things(board)):
                self.bars(True, board, lot, "x")
            board = one_team(1, *board[0][1])
            for lot in lots_of(things(board)):
                self.bars(False, board, lot, "x")

    def test_those_who_may_have_forgotten_it_count_only_while_their_eldest_is_not_in_the_lot(self):
        board = one_team(2, ("a", 1, False, ["x"]), ("b", 2, False, ["y", "z"]))
        self.bars(False, board, [], "x")
        self.bars(False, board, ["x"], "x")
        self.bars(False, board, ["z"], "x")
        self.bars(False, board, ["x", "z"], "x")
        self.bars(True, board, ["y"], "x")
        self.bars(True, board, ["x", "y"], "x")
        self.bars(True, board, ["x", "y", "z"], "x")

    def test_those_who_remember_it_count_whatever_is_in_the_lot(self):
        board = one_team(2, ("a", 2, False, ["y", "x"]), ("b", 2, True, ["x"]), ("c", 1, False, ["z"]))
        for lot in lots_of(["x", "y", "z"]):
            self.bars(False, board, lot, "x")
        board = one_team(3, *board[0][1])
        for lot in lots_of(["x", "y", "z"]):
            self.bars("z" in lot, board, lot, "x")

    def test_just_as_many_as_least_and_one_fewer(self):
        keepers = [("a", 1, True, ["x"]), ("b", 1, False, ["y"]), ("c", 1, False, ["z"]), ("d", 1, True, [])]
        for least in range(5):
            for lot, many in (([], 3), (["y"], 2), (["z"], 2), (["x", "y", "z"], 1)):
                self.bars(many < least, one_team(least, *keepers), lot, "x")

    def test_by_one_team_of_several(self):
        for at in range(3):
            board = [(1, [(name + name, 1, False, ["y"]), (name, 1, True, ["x"])]) for name in "abc"]
            self.bars(False, board, ["x", "y"], "x")
            board[at] = (2, board[at][1])
            self.bars(True, board, ["x", "y"], "x")
            self.bars(True, board, ["y"], "x")
            self.bars(False, board, ["x"], "x")

    def test_each_team_is_counted_by_itself(self):
        board = [(1, [("a", 1, True, ["x"]), ("b", 1, True, ["x"])]), (1, [("c", 1, True, [])])]
        self.bars(True, board, [], "x")
        board = [(1, [("a", 1, True, ["x"])]), (1, [("c", 1, False, ["y"])])]
        self.bars(False, board, ["x"], "x")
        self.bars(True, board, ["y"], "x")

    def test_a_least_of_zero_bars_nothing(self):
        board = [(0, [("a", 1, True, ["x"]), ("b", 1, True, ["y"])]), (0, [("c", 1, True, [])]), (0, [])]
        for lot in lots_of(["x", "y"]):
            self.bars(False, board, lot, "x")
            self.bars(False, board, lot, "y")


class Stuck(unittest.TestCase):

    def stuck_is(self, expected, board):
        with self.subTest(board=board):
            self.assertEqual(expected, every_order(stuck, board=board))
            self.assertEqual(bool(expected), every_order(stuck_shows, board=board, lot=expected))

    def test_none(self):
        for board in ([], [(0, [])], one_team(1, ("a", 1, True, [])), example(), ladder()):
            self.stuck_is([], board)

    def test_by_rows_that_go_round(self):
        self.stuck_is(["x", "y", "z"], circle())

    def test_the_greatest_has_all_others_within_it(self):
        self.stuck_is(["p", "q", "x", "y"], two_circles())

    def test_by_one_thing_that_too_few_remember(self):
        self.stuck_is(["x"], one_team(2, ("a", 1, True, ["x"]), ("b", 3, True, [])))
        self.stuck_is(["bob", "milk", "tea"], three_teams())
        self.stuck_is([], one_team(2, ("a", 1, True, ["x"]), ("b", 3, True, ["x"])))

    def test_by_those_who_would_still_remember(self):
        board = one_team(2, ("a", 1, False, ["x"]), ("b", 1, False, ["y"]))
        self.stuck_is(["x", "y"], board)

    def test_it_rises(self):
        board = [(0, [("a", 4, True, ["d", "b", "c", "a"]), ("b", 4, True, ["a", "c", "b", "d"])])]
        self.stuck_is(["a", "b", "c", "d"], board)

    def test_the_greatest_of_all_lots_of_small_boards(self):
        for board in small_boards(["x", "y", "z"], (1, 2), 2):
            shown = [lot for lot in lots_of(things(board)) if stuck_shows(board, lot)]
            greatest = stuck(board)
            self.assertTrue(all(set(lot) <= set(greatest) for lot in shown), board)
            self.assertEqual(shown[-1:], [greatest] if greatest else [], board)

    def test_a_board_is_stuck_just_where_no_history_leaves_it(self):
        for boards, left in small_worlds():
            for board in boards:
                self.assertEqual(not histories_of(board, left), bool(stuck(board)), board)


class StuckShows(unittest.TestCase):

    def shows(self, expected, board, lot):
        with self.subTest(board=board, lot=lot):
            self.assertIs(expected, every_order(stuck_shows, board=board, lot=lot))

    def test_each_stuck_lot_shows(self):
        self.shows(True, two_circles(), ["p", "q"])
        self.shows(True, two_circles(), ["x", "y"])
        self.shows(True, two_circles(), ["p", "q", "x", "y"])
        self.shows(True, circle(), ["x", "y"])
        self.shows(True, circle(), ["x", "y", "z"])

    def test_a_lot_with_a_thing_that_is_not_barred(self):
        for lot in (["p"], ["free"], ["p", "x"], ["p", "q", "x"], ["free", "p", "q"], ["free", "p", "q", "x", "y"]):
            self.shows(False, two_circles(), lot)
        self.shows(False, circle(), ["w", "x", "y", "z"])
        self.shows(False, example(), ["x", "y"])

    def test_the_empty_list(self):
        for board in ([], [(0, [])], example(), circle(), two_circles()):
            self.shows(False, board, [])

    def test_lists_that_do_not_rise(self):
        self.shows(False, two_circles(), ["q", "p"])
        self.shows(False, circle(), ["y", "x"])
        self.shows(False, circle(), ["z", "x", "y"])

    def test_a_thing_twice(self):
        self.shows(False, two_circles(), ["p", "p", "q"])
        self.shows(False, two_circles(), ["p", "q", "q"])
        self.shows(False, one_team(1, ("a", 1, True, []), ("b", 1, True, ["x"])), ["x", "x"])

    def test_strange_texts(self):
        alone = one_team(2, ("a", 1, True, ["x"]), ("b", 1, True, []))
        self.shows(True, alone, ["x"])
        for lot in (["y"], [""], ["X"], ["x", "y"], ["w", "x"], ["", "x"], ["a"], ["no name at all"], ["x "]):
            self.shows(False, alone, lot)
        for lot in (["p", "q", "r"], ["a", "p", "q"], ["", "p", "q"], ["p", "pp", "q"]):
            self.shows(False, two_circles(), lot)
        self.shows(False, [], ["x"])


class Rounds(unittest.TestCase):

    def rounds_are(self, expected, board, lot):
        with self.subTest(board=board, lot=lot):
            told = every_order(rounds, board=board, lot=lot)
            self.assertEqual(expected, told)
            self.assertIsInstance(told, tuple)

    def test_the_example(self):
        self.rounds_are(([["y"], ["x"]], []), example(), ["x", "y"])
        self.rounds_are(([["x"]], []), example(), ["x"])
        self.rounds_are(([["y"]], []), example(), ["y"])

    def test_several_rounds(self):
        self.rounds_are(([["c"], ["a", "b"], ["d"], ["e"]], []), ladder(), ["a", "b", "c", "d", "e"])
        self.rounds_are(([["a", "b"], ["d"]], []), ladder(), ["a", "b", "d"])
        self.rounds_are(([["b", "e"]], []), ladder(), ["b", "e"])

    def test_what_is_barred_by_things_outside_the_lot_is_not_barred_by_it(self):
        self.rounds_are(([["e"]], []), ladder(), ["e"])
        self.rounds_are(([["d"], ["e"]], []), ladder(), ["d", "e"])

    def test_no_round(self):
        self.rounds_are(([], ["x", "y"]), circle(), ["x", "y"])
        self.rounds_are(([], ["x", "y", "z"]), circle(), ["x", "y", "z"])

    def test_a_lot_that_is_left(self):
        self.rounds_are(([["w"]], ["x", "y", "z"]), circle(), ["w", "x", "y", "z"])
        self.rounds_are(([["free"], ["x"]], ["p", "q"]), two_circles_and_row(), ["free", "p", "q", "x"])

    def test_the_empty_lot(self):
        for board in ([], [(0, [])], example(), circle()):
            self.rounds_are(([], []), board, [])

    def test_each_round_is_what_the_rest_does_not_bar(self):
        for board in small_boards(["x", "y", "z"], (2, 1), 1):
            for lot in lots_of(things(board)):
                told, left = rounds(board, lot)
                rest = list(lot)
                for some in told:
                    self.assertTrue(some)
                    self.assertEqual(some, [thing for thing in rest if not barred(board, rest, thing)])
                    rest = [thing for thing in rest if thing not in some]
                self.assertEqual(rest, left)
                self.assertTrue(all(barred(board, left, thing) for thing in left))


def two_circles_and_row():
    """Two circles, and a row in which x stands ahead of what is free."""
    return [*two_circles()[:1], (0, [("c", 2, True, ["x", "free"])])]


class NothingKept(unittest.TestCase):

    def test_a_board_that_has_been_changed_in_between(self):
        board = two_circles()
        self.assertTrue(barred(board, ["q"], "p"))
        self.assertEqual(["p", "q", "x", "y"], stuck(board))
        self.assertTrue(stuck_shows(board, ["p", "q"]))
        board[0][1][1][3].reverse()
        self.assertEqual(["x", "y"], stuck(board))
        self.assertFalse(stuck_shows(board, ["p", "q"]))
        self.assertEqual(([["q"], ["p"]], []), rounds(board, ["p", "q"]))
        board[0][1][0][3].pop()
        board[0][1][1][3].reverse()
        self.assertFalse(barred(board, ["q"], "p"))
        self.assertTrue(barred(board, ["p"], "q"))

    def test_told_lists_are_the_askers_own(self):
        board = circle()
        told = stuck(board)
        told.clear()
        self.assertEqual(["x", "y", "z"], stuck(board))
        lot = ["w", "x", "y", "z"]
        found, left = rounds(board, lot)
        found[0].append("more")
        found.append(["more"])
        left.clear()
        self.assertEqual(["w", "x", "y", "z"], lot)
        self.assertEqual(([["w"]], ["x", "y", "z"]), rounds(board, lot))
        self.assertEqual(circle(), board)

    def test_no_two_lists_told_at_once_are_one(self):
        for board, lot in (([], []), (circle(), ["x", "y"]), (ladder(), ["a", "b", "c", "d", "e"])):
            found, left = rounds(board, lot)
            told = [lot, left, found, *found]
            self.assertEqual(len(told), len({id(some) for some in told}))
