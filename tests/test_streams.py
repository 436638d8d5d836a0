"""Two boards of one stream, point 23."""

import itertools
import unittest

from dimkeepers.boards import fault, keepers_of, things
from dimkeepers.errors import NoOrder, TooMany, Twice
from dimkeepers.streams import apart, both, only_both
from tests.helpers import (
    circle, every_order, example, known_of, one_team, orders_by_rule, own_lists, refusal, small_boards, three_teams,
)

ASKS = [both, only_both, apart]


def row_each(*rows, names="abcdefgh"):
    return one_team(0, *[(name, 12, True, list(row)) for name, row in zip(names, rows)])


def empty(count, name):
    """So many keepers of one team, who remember nothing."""
    return [(0, [(name + letter, 1, True, []) for letter in "abcdefghi"[:count]])]


def renamed(board, names):
    """A board whose keepers are called so."""
    left = iter(names)
    return [(least, [(next(left), *keeper[1:]) for keeper in keepers]) for least, keepers in board]


def stuck_by_orders(board):
    """Whether the board can have no order."""
    return not orders_by_rule(board)


class Both(unittest.TestCase):

    def test_the_first_ones_teams_ahead(self):
        one, other = example(), [(0, [("z", 2, True, ["x"])]), (1, [("d", 2, False, ["p", "y"])])]
        self.assertEqual([*example(), *other], every_order(both, one=one, other=other))
        self.assertEqual([*other, *example()], both(other, one))
        self.assertEqual([*example(), *other], both(other=other, one=one))

    def test_boards_without_keepers(self):
        self.assertEqual([], every_order(both, one=[], other=[]))
        self.assertEqual([(0, []), (0, []), (0, [])], every_order(both, one=[(0, [])], other=[(0, []), (0, [])]))
        self.assertEqual(example(), every_order(both, one=example(), other=[]))
        self.assertEqual(three_teams(), every_order(both, one=[], other=three_teams()))

    def test_just_three_teams_and_eight_keepers(self):
        for count in range(9):
            one, other = empty(count, "a"), empty(8 - count, "b")
            self.assertEqual([*one, *other], every_order(both, one=one, other=other))
        one = [*empty(3, "a"), *empty(3, "b")]
        self.assertEqual([*one, *empty(2, "c")], every_order(both, one=one, other=empty(2, "c")))

    def test_a_thing_called_like_a_keeper_of_the_other_board(self):
        one, other = row_each("d"), row_each("a", names="d")
        self.assertEqual([*one, *other], every_order(both, one=one, other=other))


class OnlyBoth(unittest.TestCase):

    def told(self, expected, one, other):
        with self.subTest(one=one, other=other):
            self.assertEqual(expected, every_order(only_both, one=one, other=other))
            self.assertEqual(expected, only_both(other, one))

    def test_by_a_chain(self):
        self.told([("x", "z")], row_each("xy"), row_each("yz", names="d"))
        self.told([("w", "y"), ("w", "z"), ("x", "z")], row_each("xy"), row_each("yz", "wx", names="de"))
        self.told([], row_each("xyz"), row_each("xz", names="d"))
        self.told([], row_each("xy"), row_each("xy", names="d"))

    def test_one_of_them_without_things(self):
        self.told([], example(), [])
        self.told([], [], [])
        self.told([], row_each("xy", ""), empty(3, "b"))

    def test_a_team_that_need_not_have_known(self):
        # By itself the second board tells nothing of y; together y cannot be ahead of x.
        one = one_team(1, ("a", 1, False, ["x"]), ("b", 1, True, []))
        other = one_team(0, ("d", 1, True, ["y"]))
        self.told([("y", "x")], one, other)

    def test_by_all_orders_of_small_boards(self):
        told_of = 0
        ones = [board[:1] for board in small_boards("xyz", (2, 1), 2) if len(things(board)) > 1]
        others = [renamed(board, "de") for board in small_boards("wxy", (2, 1), 1) if things(board)]
        for one, other in itertools.islice(itertools.product(ones, others), 0, None, 89):
            together = [*one, *other]
            if stuck_by_orders(together):
                lot = refusal(NoOrder, only_both, one=one, other=other).lot
                self.assertEqual(apart(one, other), lot)
                self.assertTrue(lot)
                continue
            expected = known_of(together) - known_of(one) - known_of(other)
            self.assertEqual(sorted(expected), only_both(one, other), (one, other))
            self.assertEqual([], apart(one, other))
            told_of += bool(expected)
        self.assertGreater(told_of, 30)


class Apart(unittest.TestCase):

    def told(self, expected, one, other):
        with self.subTest(one=one, other=other):
            self.assertEqual(list(expected), every_order(apart, one=one, other=other))
            self.assertEqual(list(expected), apart(other, one))

    def test_of_one_stream(self):
        self.told("", row_each("xy"), row_each("xy", names="d"))
        self.told("", [], [])
        self.told("", row_each("xyz"), row_each("zw", "xw", names="de"))

    def test_not_of_one_stream(self):
        self.told("xy", row_each("xy"), row_each("yx", names="d"))
        self.told("wxyz", row_each("wxy", "p"), row_each("yzw", "q", names="de"))

    def test_the_greatest_lot(self):
        self.told("pqxy", row_each("xy", "pq"), row_each("yx", "qp", names="de"))
        self.told("vxyz", row_each("vxy"), row_each("yzx", "zw", names="de"))

    def test_one_that_is_stuck_by_itself(self):
        self.told("xyz", circle(), row_each("w", names="d"))
        self.assertEqual(["x", "y", "z"], apart(row_each("w", names="d"), circle()))

    def test_a_team_to_which_it_cannot_have_been_told(self):
        one, other = one_team(1, ("a", 2, True, ["x"])), one_team(1, ("d", 2, True, ["y"]))
        self.told("xy", one, other)
        self.told("y", one, one_team(0, ("d", 2, True, ["y"])))
        self.told("", one, one_team(1, ("d", 2, True, ["x"])))


class Refusals(unittest.TestCase):

    def test_twice_goes_first(self):
        crowd = [*empty(4, "a"), (1, [("zed", 1, True, [])]), *empty(3, "c")]
        for one, other in ((example(), example()), (three_teams(), three_teams()), (crowd, crowd[1:]),
                           (crowd, [*empty(4, "b"), *empty(1, "c")]), (circle(), row_each("xy", "yx", names="zb"))):
            for ask in ASKS:
                refusal(Twice, ask, one=one, other=other)
                refusal(Twice, ask, one=other, other=one)

    def test_too_many_teams(self):
        for one, other, count in (([(0, [])] * 2, [(0, [])] * 2, 4), ([(0, [])] * 3, [(0, [])] * 3, 6),
                                  ([*empty(4, "a"), *empty(4, "b")], [*empty(4, "c"), *empty(4, "d")], 4),
                                  (three_teams(), example()[:1], 4)):
            other = renamed(other, ["yab", "yac", "yad", "yae", "yaf", "yag", "yah", "yai"])
            for ask in ASKS:
                self.assertEqual(count, refusal(TooMany, ask, one=one, other=other).many)

    def test_too_many_keepers(self):
        for first, second in ((8, 1), (1, 8), (5, 4), (8, 8)):
            for ask in ASKS:
                self.assertEqual(first + second,
                                 refusal(TooMany, ask, one=empty(first, "a"), other=empty(second, "b")).many)
        stuck = row_each("xy", "yx", "xy", "xy", "xy")
        for ask in ASKS:
            self.assertEqual(9, refusal(TooMany, ask, one=stuck, other=[*empty(2, "b"), *empty(2, "c")]).many)

    def test_no_order_of_the_two_together(self):
        for one, other, lot in ((row_each("xy"), row_each("yx", names="d"), "xy"), (circle(), [], "xyz"),
                                (circle(), row_each("pq", "qp", names="de"), "pqxyz"),
                                (row_each("pq"), row_each("xyz", "zy", names="de"), "xyz"),
                                (row_each("zx"), row_each("xyz", "pq", names="de"), "xyz")):
            for first, second in ((one, other), (other, one)):
                self.assertEqual(list(lot), refusal(NoOrder, only_both, one=first, other=second).lot)


class HandedOut(unittest.TestCase):

    def test_told_lists_are_new_ones(self):
        one, other = row_each("xy", "yw"), row_each("yz", names="d")
        together = own_lists(lambda: both(one, other), one, other)
        self.assertEqual([*one, *other], together)
        self.assertEqual([("x", "z")], own_lists(lambda: only_both(one, other), one, other))
        self.assertEqual(["x", "y"], own_lists(lambda: apart(row_each("xy"), row_each("yx", names="d"))))
        own_lists(lambda: both([], three_teams()))
        self.assertIsNone(fault(together))
        one[0][1][0][3].append("more")
        self.assertNotIn("more", things(together))

    def test_boards_grown_in_place(self):
        one, other = row_each("x"), row_each("yz", names="d")
        self.assertEqual([], only_both(one, other))
        one[0][1][0][3].append("y")
        self.assertEqual([("x", "z")], only_both(one, other))
        other[0][1][0][3].append("x")
        self.assertEqual(["x", "y", "z"], apart(one, other))
        self.assertEqual(2, len(keepers_of(both(one, other))))
