"""What is known ahead, the lots that show it, and what stands against it, points 12 and 13."""

import copy
import itertools
import unittest

from dimkeepers.boards import things
from dimkeepers.errors import NoOrder, NoThing
from dimkeepers.known import against, ahead, eldest_ones, lot_for, lot_shows, newest, pairs
from dimkeepers.orders import can_have
from tests.helpers import (
    bars_by_word, boards_with_orders, circle, every_order, example, histories_of, ladder, lots_of, one_team,
    small_worlds, three_teams, two_circles,
)

STRANGE = ["", "X", "a", "no name at all", "x ", "xx", "1"]
ASKS_OF_TWO = [ahead, lot_for, against]
ASKS_OF_NONE = [pairs, newest, eldest_ones]


def either():
    """x is ahead of y or of z, but of neither of them in all orders."""
    return one_team(2, ("a", 1, False, ["x"]), ("b", 1, False, ["y"]), ("c", 1, False, ["z"]),
                    ("d", 1, True, ["y"]), ("e", 1, True, ["z"]))


def shows_by_word(board, one, other, lot):
    """Whether a lot of the board shows it, as point 12 tells it."""
    return one in lot and other not in lot and all(bars_by_word(board, [*lot, other], thing) for thing in lot)


def least_against(orders, one, other):
    """The order told against it, chosen place by place among all orders with the other ahead."""
    left = [order[::-1] for order in orders if order.index(other) < order.index(one)]
    told = []
    while left and len(told) < len(left[0]):
        stands = {order[len(told)] for order in left}
        told.append(one if one in stands else min(stands))
        left = [order for order in left if order[:len(told)] == told]
    return told[::-1] if left else None


class OfTwo(unittest.TestCase):

    def known(self, lot, board, one, other):
        with self.subTest(board=board, one=one, other=other):
            self.assertIs(True, every_order(ahead, board=board, one=one, other=other))
            self.assertEqual(list(lot), every_order(lot_for, board=board, one=one, other=other))
            self.assertIs(True, every_order(lot_shows, board=board, one=one, other=other, lot=list(lot)))
            self.assertIsNone(every_order(against, board=board, one=one, other=other))

    def unknown(self, order, board, one, other):
        with self.subTest(board=board, one=one, other=other):
            self.assertIs(False, every_order(ahead, board=board, one=one, other=other))
            self.assertIsNone(every_order(lot_for, board=board, one=one, other=other))
            self.assertEqual(list(order), every_order(against, board=board, one=one, other=other))

    def test_the_example(self):
        self.known("x", example(), "x", "y")
        self.unknown("xy", example(), "y", "x")

    def test_by_a_row(self):
        board = one_team(0, ("a", 3, True, ["x", "y", "z"]))
        self.known("x", board, "x", "y")
        self.known("xy", board, "x", "z")
        self.known("xy", board, "y", "z")
        self.unknown("xyz", board, "z", "x")

    def test_by_rows_together(self):
        self.known("e", ladder(), "e", "d")
        self.known("de", ladder(), "e", "b")
        self.known("abde", ladder(), "e", "c")
        self.known("abde", ladder(), "a", "c")
        self.known("abcde", [(0, [*ladder()[0][1], ("p", 2, True, ["c", "p"])])], "e", "p")

    def test_the_one_as_soon_as_it_can(self):
        self.unknown("edbac", ladder(), "a", "b")
        self.unknown("edabc", ladder(), "b", "a")
        free = one_team(0, *[(name, 1, True, [name]) for name in "pqrst"])
        self.unknown("tsrqp", free, "p", "q")
        self.unknown("srqpt", free, "t", "p")
        self.unknown("tsqpr", free, "r", "t")

    def test_the_other_one_not_ahead_of_that(self):
        # The least that can stand newest is b, but b waits till d stands, which waits for c.
        board = one_team(0, ("k", 2, True, ["d", "c"]), ("l", 1, True, ["b"]), ("m", 1, True, ["e"]))
        self.unknown("ebdc", board, "d", "b")
        self.unknown("edcb", board, "b", "d")

    def test_behind_one_of_two_is_known_of_neither(self):
        self.unknown("zxy", either(), "x", "z")
        self.unknown("yxz", either(), "x", "y")
        self.unknown("zxy", either(), "y", "z")
        self.unknown("zxy", either(), "y", "x")

    def test_of_one_thing_twice(self):
        for board in (example(), ladder(), either()):
            for thing in things(board):
                self.assertIs(False, every_order(ahead, board=board, one=thing, other=thing))
                self.assertIsNone(every_order(lot_for, board=board, one=thing, other=thing))
                self.assertIsNone(every_order(against, board=board, one=thing, other=thing))
                for lot in lots_of(things(board)):
                    self.assertIs(False, lot_shows(board, thing, thing, lot))

    def test_by_all_orders_of_small_boards(self):
        for board, orders in boards_with_orders():
            for one, other in itertools.permutations(things(board), 2):
                known = all(order.index(one) < order.index(other) for order in orders)
                self.assertIs(known, ahead(board, one, other), (board, one, other))
                shown = [lot for lot in lots_of(things(board)) if shows_by_word(board, one, other, lot)]
                self.assertEqual(known, bool(shown), (board, one, other))
                greatest = lot_for(board, one, other)
                self.assertEqual(shown[-1] if known else None, greatest, (board, one, other))
                self.assertTrue(all(set(lot) <= set(greatest) for lot in shown))
                self.assertEqual(least_against(orders, one, other), against(board, one, other), (board, one, other))

    def test_by_all_histories_of_small_boards(self):
        for boards, left in small_worlds():
            for board in boards:
                told = [[thing for thing, _ in history] for history in histories_of(board, left)]
                for one, other in itertools.permutations(things(board) if told else [], 2):
                    known = all(order.index(one) < order.index(other) for order in told)
                    self.assertIs(known, ahead(board, one, other), (board, one, other))
                    self.assertIs(known, against(board, one, other) is None)


class LotShows(unittest.TestCase):

    def shows(self, expected, board, one, other, lot):
        with self.subTest(board=board, one=one, other=other, lot=lot):
            self.assertIs(expected, every_order(lot_shows, board=board, one=one, other=other, lot=lot))

    def test_lesser_ones_show_too(self):
        board = one_team(0, ("a", 3, True, ["x", "y", "z"]))
        self.shows(True, board, "x", "z", ["x"])
        self.shows(True, board, "x", "z", ["x", "y"])
        self.shows(False, board, "x", "z", ["y"])
        self.shows(True, board, "y", "z", ["y"])
        self.shows(True, board, "y", "z", ["x", "y"])

    def test_a_lot_with_the_other_one_or_without_the_one(self):
        self.shows(True, example(), "x", "y", ["x"])
        for lot in ([], ["y"], ["x", "y"]):
            self.shows(False, example(), "x", "y", lot)
        for lot in ([], ["y"], ["x"], ["x", "y"]):
            self.shows(False, example(), "y", "x", lot)

    def test_a_lot_with_a_thing_that_is_not_barred(self):
        self.shows(True, ladder(), "e", "d", ["e"])
        for lot in ("ae", "be", "ce", "abce"):
            self.shows(False, ladder(), "e", "d", list(lot))
        self.shows(True, ladder(), "e", "a", ["d", "e"])
        self.shows(False, ladder(), "e", "a", ["e"])

    def test_lists_that_are_no_lot(self):
        for lot in (["e", "d"], ["d", "d", "e"], ["d", "e", "e"], ["d", "e", "z"], ["", "d", "e"], ["D", "d", "e"],
                    ["d", "e", "no name at all"], ["e", "e"], ["d", "e", "k"]):
            self.shows(False, ladder(), "e", "a", lot)
        for text in STRANGE:
            self.shows(False, example(), "x", "y", [text])
            self.shows(False, example(), "x", "y", ["x", text])
            self.shows(False, example(), "x", "y", [text, "x"])

    def test_all_lots_of_small_boards(self):
        for board, _ in itertools.islice(boards_with_orders(), 0, None, 5):
            for one, other in itertools.product(things(board), repeat=2):
                for lot in lots_of(things(board)):
                    expected = shows_by_word(board, one, other, lot)
                    self.assertIs(expected, lot_shows(board, one, other, lot), (board, one, other, lot))


class OfAll(unittest.TestCase):

    def all_are(self, expected, board):
        with self.subTest(board=board):
            self.assertEqual(expected, tuple(every_order(ask, board=board) for ask in ASKS_OF_NONE))

    def test_the_example(self):
        self.all_are(([("x", "y")], ["y"], ["x"]), example())

    def test_rising(self):
        self.all_are(([("a", "c"), ("b", "c"), ("d", "a"), ("d", "b"), ("d", "c"), ("e", "a"), ("e", "b"), ("e", "c"),
                       ("e", "d")], ["c"], ["e"]), ladder())
        board = one_team(0, *[(name, 1, True, [name]) for name in "cab"])
        self.all_are(([], ["a", "b", "c"], ["a", "b", "c"]), board)

    def test_boards_without_things(self):
        for board in ([], [(0, [])], one_team(1, ("a", 2, True, []))):
            self.all_are(([], [], []), board)

    def test_one_thing(self):
        self.all_are(([], ["x"], ["x"]), one_team(1, ("a", 1, True, ["x"])))

    def test_what_is_not_the_newest_may_be_ahead_of_no_other_one(self):
        self.all_are(([], ["y", "z"], ["x", "y", "z"]), either())

    def test_by_all_orders_of_small_boards(self):
        for board, orders in boards_with_orders():
            known = [(one, other) for one, other in itertools.permutations(things(board), 2)
                     if all(order.index(one) < order.index(other) for order in orders)]
            self.assertEqual(sorted(known), pairs(board), board)
            self.assertEqual(sorted({order[-1] for order in orders if order}), newest(board), board)
            self.assertEqual(sorted({order[0] for order in orders if order}), eldest_ones(board), board)


class Refusals(unittest.TestCase):

    def test_no_order_bears_the_greatest_stuck_lot(self):
        for board, lot in ((circle(), "xyz"), (two_circles(), "pqxy"), (three_teams(), ["bob", "milk", "tea"])):
            before = copy.deepcopy(board)
            one, other = things(board)[:2]
            calls = [lambda ask=ask: ask(board) for ask in ASKS_OF_NONE]
            for some in ((one, other), (one, one), ("strange", other), (one, ""), ("no", "thing")):
                calls.extend([lambda ask=ask, some=some: ask(board, *some) for ask in ASKS_OF_TWO])
                calls.append(lambda some=some: lot_shows(board, *some, [one]))
                calls.append(lambda some=some: lot_shows(board, *some, ["strange"]))
            lots = []
            for call in calls:
                with self.assertRaises(NoOrder) as caught:
                    call()
                lots.append(caught.exception.lot)
                self.assertEqual(list(lot), lots[-1])
            self.assertEqual(len(lots), len({id(some) for some in lots}))
            self.assertEqual(before, board)

    def test_no_thing(self):
        board = example()
        for text in [*STRANGE, "b", "z", "abcdefghi"]:
            for some in (("x", text), (text, "x"), (text, text), (text, "nothing")):
                for call in [*[lambda ask=ask: ask(board, *some) for ask in ASKS_OF_TWO],
                             *[lambda ask=ask: ask(other=some[1], one=some[0], board=board) for ask in ASKS_OF_TWO],
                             lambda: lot_shows(board, *some, ["x"]), lambda: lot_shows(board, *some, [text]),
                             lambda: lot_shows(lot=[], other=some[1], one=some[0], board=board)]:
                    with self.subTest(some=some):
                        with self.assertRaises(NoThing):
                            call()
        self.assertEqual(example(), board)
        for ask in ASKS_OF_TWO:
            with self.assertRaises(NoThing):
                ask([], "x", "x")


class HandedOut(unittest.TestCase):

    def test_told_lists_are_the_askers_own(self):
        board = ladder()
        asks = [lambda: pairs(board), lambda: newest(board), lambda: eldest_ones(board),
                lambda: lot_for(board, "e", "c"), lambda: against(board, "a", "b")]
        for ask in asks:
            told = ask()
            before = list(told)
            told.append("more")
            told.reverse()
            self.assertEqual(before, ask())
        self.assertEqual(ladder(), board)

    def test_told_lists_are_no_rows_and_not_what_is_handed_in(self):
        board = one_team(0, ("a", 2, True, ["x", "y"]), ("b", 1, True, ["x"]), ("c", 1, True, ["y"]))
        rows = [row for _, keepers in board for _, _, _, row in keepers]
        for told in (lot_for(board, "x", "y"), against(board, "y", "x"), newest(board), eldest_ones(board)):
            self.assertTrue(all(told is not row for row in rows))

    def test_pairs_are_tuples(self):
        self.assertTrue(all(isinstance(pair, tuple) and len(pair) == 2 for pair in pairs(ladder())))

    def test_a_board_that_has_been_changed_in_between(self):
        board = one_team(0, ("a", 2, True, ["x", "y"]))
        self.assertEqual([("x", "y")], pairs(board))
        board[0][1][0][3].reverse()
        self.assertEqual([("y", "x")], pairs(board))
        self.assertEqual((["x"], ["y"]), (newest(board), eldest_ones(board)))
        self.assertFalse(ahead(board, "x", "y"))
        self.assertEqual(["y", "x"], against(board, "x", "y"))
        self.assertTrue(can_have(board, against(board, "x", "y")))
