"""How many orders a board can have, and each by its number, point 15."""

import itertools
import math
import random
import unittest

from dimkeepers.boards import things
from dimkeepers.counts import many, many_ahead, nth, places
from dimkeepers.errors import NoNumber, NoOrder, NoThing, TooMany
from dimkeepers.orders import can_have, order_of
from tests.helpers import (
    boards_with_orders, circle, every_order, example, ladder, one_team, own_lists, rare_boards, refusal, three_teams,
    two_circles,
)

TEXTS = ["".join(both) for both in itertools.product("abcdefghijklmnop", repeat=2)]


def apart_rows(*lengths):
    """Rows of so many things that bind each other nowhere, and the number of ways to weave them."""
    texts = iter(TEXTS)
    keepers = [(name, 12, True, [next(texts) for _ in range(length)]) for name, length in zip("abcdefgh", lengths)]
    ways = math.factorial(sum(lengths))
    for length in lengths:
        ways //= math.factorial(length)
    return [(0, keepers[:3]), (0, keepers[3:])], ways


def refused_asks():
    """Each function, with what else it is handed, twice of what it would refuse, too."""
    return [(many, {}), (many_ahead, {"one": "strange", "other": ""}),
            (many_ahead, {"one": "strange", "other": "strange"}), (places, {"thing": "strange"}),
            (nth, {"number": -1}), (nth, {"number": 10 ** 19}), (nth, {"number": 0})]


class Numbers(unittest.TestCase):

    def counted(self, board, orders):
        """All that is told of a board, against a list of its orders."""
        orders = sorted(orders, key=lambda order: order[::-1])
        found = things(board)
        self.assertEqual(len(orders), every_order(many, board=board))
        for thing in found:
            expected = [sum(order[place] == thing for order in orders) for place in range(len(found))]
            self.assertEqual(expected, every_order(places, board=board, thing=thing), (board, thing))
        for one, other in itertools.product(found, repeat=2):
            expected = sum(order.index(one) < order.index(other) for order in orders)
            self.assertEqual(expected, every_order(many_ahead, board=board, one=one, other=other), (board, one, other))
        for number, order in enumerate(orders):
            self.assertEqual(order, every_order(nth, board=board, number=number), (board, number))
        for number in (-1, len(orders), len(orders) + 1, -len(orders) - 1, 10 ** 19, -10 ** 19):
            refusal(NoNumber, nth, board=board, number=number)

    def test_the_example(self):
        self.counted(example(), [["x", "y"]])

    def test_things_side_by_side(self):
        self.counted(ladder(), [list("edabc"), list("edbac")])
        self.assertEqual([0, 0, 1, 1, 0], places(ladder(), "a"))
        self.assertEqual([1, 1], [many_ahead(ladder(), "a", "b"), many_ahead(ladder(), "b", "a")])
        self.counted(one_team(0, *[(name, 1, True, [name]) for name in "abc"]),
                     [list(order) for order in itertools.permutations("abc")])

    def test_numbers_rise_from_the_newest_thing_on(self):
        # Read from the eldest on, the order b, c, a would be the last but two.
        board = one_team(0, ("k", 1, True, ["c"]), ("l", 1, True, ["b"]), ("m", 1, True, ["a"]))
        self.assertEqual(["cba", "bca", "cab", "acb", "bac", "abc"], ["".join(nth(board, k)) for k in range(6)])

    def test_one_thing_twice(self):
        for board in (example(), ladder(), one_team(0, ("a", 1, True, ["x"]))):
            for thing in things(board):
                self.assertEqual(0, every_order(many_ahead, board=board, one=thing, other=thing))

    def test_boards_without_things(self):
        for board in ([], [(0, [])], one_team(2, ("a", 2, True, []), ("b", 1, True, [])), [(0, []), (0, []), (0, [])]):
            self.counted(board, [[]])
            self.assertEqual((1, []), (many(board), nth(board, 0)))

    def test_by_all_orders_of_small_boards(self):
        for board, orders in itertools.chain(itertools.islice(boards_with_orders(), 0, None, 9),
                                             rare_boards("xyz", (1, 1, 1, 1), 2, 40),
                                             rare_boards("wxyz", (2, 2, 1), 2, 150)):
            self.counted(board, orders)

    def test_teams_bind_more_than_rows(self):
        # Somebody of the two forgot x or y, so neither of these can come behind z.
        board = one_team(2, ("a", 1, False, ["x"]), ("b", 1, False, ["y"]), ("c", 1, False, ["z"]),
                         ("d", 1, True, ["y"]), ("e", 1, True, ["z"]))
        self.counted(board, [list("xyz"), list("xzy"), list("yxz"), list("zxy")])


class GreatRows(unittest.TestCase):

    def test_the_ways_to_weave_them(self):
        for lengths in ((12, 12, 12, 8), (2,) * 8, (9, 9, 9, 9, 1), (4, 4, 4, 4, 7, 3), (12, 0, 12, 0, 0, 12), (12,),
                        (1,) * 8, (5, 3, 0, 1)):
            board, ways = apart_rows(*lengths)
            with self.subTest(lengths):
                self.assertEqual(ways, many(board))
                first, last = board[0][1][0][3][0], board[0][1][0][3][-1]
                told = places(board, first)
                self.assertEqual((sum(lengths), ways), (len(told), sum(told)))
                # So many of the orders begin with the first thing of a row as the row has things of all.
                self.assertEqual(ways * lengths[0] // sum(lengths), told[0])
                self.assertEqual(ways * lengths[0] // sum(lengths), places(board, last)[-1])
                self.assertEqual([0] * (lengths[0] - 1), told[sum(lengths[1:]) + 1:])

    def test_numbers_of_great_rows(self):
        for lengths in ((12, 12, 12, 8), (4, 1, 5), (2,) * 8):
            board, ways = apart_rows(*lengths)
            self.assertEqual(order_of(board), nth(board, 0))
            chance = random.Random(sum(lengths))
            numbers = sorted(chance.randrange(ways) for _ in range(3)) + [ways - 1]
            told = [nth(board, number)[::-1] for number in numbers]
            self.assertEqual(sorted(told), told)
            self.assertTrue(all(can_have(board, order[::-1]) for order in told))
            self.assertGreater(nth(board, numbers[0] + 1)[::-1], told[0])
            refusal(NoNumber, nth, board=board, number=ways)
            # The last one takes the rows one by one, that of the greatest things first.
            rows = [row[::-1] for _, keepers in board for _, _, _, row in keepers]
            self.assertEqual([thing for row in rows[::-1] for thing in row], told[-1])

    def test_one_ahead_of_another_one(self):
        board, ways = apart_rows(12, 12, 12, 8)
        rows = [row for _, keepers in board for _, _, _, row in keepers]
        self.assertEqual(ways, many_ahead(board, rows[0][0], rows[0][11]))
        self.assertEqual(0, many_ahead(board, rows[3][7], rows[3][6]))
        # Rows of one length are alike.
        self.assertEqual(ways, 2 * many_ahead(board, rows[0][5], rows[1][5]))
        self.assertEqual(ways, many_ahead(board, rows[0][2], rows[3][1]) + many_ahead(board, rows[3][1], rows[0][2]))
        # The first of a row is behind that of a row of eight in eight of twenty weavings of these two.
        self.assertEqual(ways * 12 // 20, many_ahead(board, rows[0][0], rows[3][0]))

    def test_rows_that_bind_each_other(self):
        rows = [TEXTS[k:k + 12] for k in (0, 12, 6, 0)]
        board = [(1, [(name, 12, False, row) for name, row in zip("abc", rows)]), (0, [("d", 12, True, rows[3][:8])])]
        # Of the first twelve things the last six are the first ones of the third row, of the second its last ones.
        self.assertEqual(1, many(board))
        self.assertEqual([TEXTS[:24]], [nth(board, 0)])
        self.assertEqual([0] * 7 + [1] + [0] * 16, places(board, TEXTS[7]))


class Refusals(unittest.TestCase):

    def test_too_many_goes_ahead_of_all(self):
        board, _ = apart_rows(3, 4, 6, 10, 12)
        far, _ = apart_rows(*[12] * 8)
        # The rows' lengths count, whether things are in several of them or not.
        alike = [(2, [(name, 12, True, TEXTS[:12][::sign]) for name, sign in zip("abcd", (1, -1, 1, -1))]), (0, [])]
        for some, product in ((board, 20020), (far, 13 ** 8), (alike, 13 ** 4)):
            for function, more in refused_asks():
                self.assertEqual(product, refusal(TooMany, function, board=some, **more).many)
            self.assertEqual(product, refusal(TooMany, many_ahead, board=some, one="aa", other="aa").many)

    def test_just_twenty_thousand_are_counted(self):
        board, ways = apart_rows(9, 9, 9, 9, 1)
        self.assertEqual(20000, math.prod(len(row) + 1 for _, keepers in board for _, _, _, row in keepers))
        self.assertEqual(ways, many(board))
        board[1][1][1][3].append("more")
        self.assertEqual(30000, refusal(TooMany, many, board=board).many)

    def test_no_order_goes_ahead_of_things_and_numbers(self):
        stuck = [(1, [("a", 12, True, TEXTS[:9]), ("b", 12, True, TEXTS[:9]), ("c", 12, True, TEXTS[:9])]),
                 (1, [("d", 12, True, TEXTS[:9]), ("e", 12, True, [])])]
        stuck[1][1][1][3].append("zz")
        for board, lot in ((circle(), list("xyz")), (two_circles(), list("pqxy")),
                           (three_teams(), ["bob", "milk", "tea"]), (stuck, ["zz"])):
            for function, more in refused_asks():
                self.assertEqual(lot, refusal(NoOrder, function, board=board, **more).lot)
            refusal(NoOrder, many_ahead, board=board, one=lot[0], other=lot[0])

    def test_no_thing(self):
        for board in (example(), [], one_team(0, ("a", 1, True, []))):
            for text in ("", "X", "a", "z", "xx", "no name at all", "abcdefghi"):
                refusal(NoThing, places, board=board, thing=text)
                for one, other in (("x", text), (text, "x"), (text, text)):
                    refusal(NoThing, many_ahead, board=board, one=one, other=other)


class HandedOut(unittest.TestCase):

    def test_told_lists_are_new_ones(self):
        board = ladder()
        self.assertEqual([0, 0, 1, 1, 0], own_lists(lambda: places(board, "a"), board))
        self.assertEqual(list("edabc"), own_lists(lambda: nth(board, 1), board))
        self.assertEqual([], own_lists(lambda: nth([], 0)))
        self.assertEqual(ladder(), board)

    def test_a_board_grown_in_place(self):
        board = [(0, [("a", 3, True, [])])]
        counts = []
        for thing in "xyz":
            board[0][1][0][3].append(thing)
            board[0][1].append((thing, 1, True, [thing + thing]))
            counts.append((many(board), many_ahead(board, "x", "xx"), places(board, "x")[0], nth(board, 0)[0]))
        self.assertEqual([(2, 1, 1, "xx"), (12, 8, 6, "yy"), (120, 90, 60, "zz")], counts)
