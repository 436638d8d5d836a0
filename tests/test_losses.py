"""What is known behind losses of keepers, points 16 and 17."""

import itertools
import unittest

from dimkeepers.boards import fault, names, things
from dimkeepers.errors import NoKeeper, NoOrder, NoThing, TooMany
from dimkeepers.known import ahead
from dimkeepers.losses import bears, freeing, showing, without
from tests.helpers import (
    boards_with_orders, circle, drawn_boards, every_order, example, known_by, ladder, lots_of, one_team,
    orders_by_rule, own_lists, rare_boards, refusal, three_teams, two_circles,
)

ASKS = [freeing, showing, bears]
STRANGE = ["", "X", "z", "xx", "x ", "no name at all", "1", "abcdefghi"]


def lost_by_word(board, lost):
    """The board behind a loss, as point 16 tells it."""
    left = []
    for least, keepers in board:
        here = [keeper for keeper in keepers if keeper[0] not in lost]
        left.append((max(0, least - sum(keeper[0] in lost for keeper in keepers)), here))
    return left


def known_behind(board):
    """For each list of lost names all orders of what is left, and its things."""
    told = {}
    for lost in lots_of(names(board)):
        left = lost_by_word(board, lost)
        told[tuple(lost)] = (orders_by_rule(left), things(left))
    return told


def by_word(states, one, other):
    """What freeing, showing and bears tell by the words of 16 and 17, of all lists of names."""
    lists = sorted(states, key=lambda some: (len(some), some))
    both = {some: one in states[some][1] and other in states[some][1] for some in lists}
    known = {some: both[some] and known_by(states[some][0], one, other) for some in lists}
    rest = {some: tuple(name for name in lists[-1] if name not in some) for some in lists}
    frees = {some for some in lists if both[some] and not known[some]}
    shows = {some for some in lists if known[rest[some]]}
    least = [[list(some) for some in lists if some in good and not any(set(part) < set(some) for part in good)]
             for good in (frees, shows)]
    numbers = [n for n in range(len(lists[-1]) + 1) if not any(len(some) <= n for some in frees)]
    return least[0], least[1], max(numbers) if known[()] and frees else None


class Without(unittest.TestCase):

    def test_rows_rooms_truths_and_leasts(self):
        board = three_teams()
        self.assertEqual([(0, [("dan", 2, False, ["tea", "bob"])]), (0, []),
                          (1, [("bob", 12, True, []), ("eve", 2, True, ["tea", "milk"])])],
                         every_order(without, board=board, names=["ann", "cid"]))
        self.assertEqual([(1, board[0][1]), (0, []), (0, [board[2][1][1]])],
                         every_order(without, board=board, names=["cid", "eve"]))

    def test_leasts_are_not_below_none(self):
        board = [(0, [("a", 1, True, ["x"]), ("b", 1, False, ["y"])]),
                 (1, [("c", 1, True, []), ("d", 1, True, []), ("e", 2, True, ["x"])])]
        self.assertEqual([(0, [("b", 1, False, ["y"])]), (0, [("e", 2, True, ["x"])])],
                         every_order(without, board=board, names=["a", "c", "d"]))

    def test_teams_stay(self):
        board = three_teams()
        self.assertEqual([(0, []), (0, []), (0, [])], every_order(without, board=board, names=names(board)))
        self.assertEqual([(0, []), (0, []), board[2]], every_order(without, board=board, names=["ann", "dan"]))

    def test_of_nobody_all_stays(self):
        for board in ([], [(0, [])], three_teams(), circle(), example()):
            self.assertEqual(board, every_order(without, board=board, names=[]))

    def test_names_in_any_order(self):
        board = three_teams()
        for count in range(5):
            for some in itertools.permutations(names(board), count):
                self.assertEqual(lost_by_word(board, some), every_order(without, board=board, names=list(some)))
        self.assertEqual(without(board, ["ann"]), without(board, ["ann", "ann"]))

    def test_more_than_six_keepers(self):
        board = [(4, [(name, 1, True, []) for name in "abcdefgh"])]
        self.assertEqual([(3, board[0][1][1:])], without(board, ["a"]))
        self.assertEqual([(0, [])], without(board, list("hgfedcba")))

    def test_small_boards(self):
        for board, _ in itertools.islice(boards_with_orders(), 0, None, 7):
            for lost in lots_of(names(board)):
                left = without(board, lost)
                self.assertEqual(lost_by_word(board, lost), left)
                self.assertIsNone(fault(left))

    def test_a_stranger(self):
        for board in (three_teams(), circle()):
            right = names(board)[0]
            for text in ["zed", *STRANGE]:
                for some in ([text], [right, text], [text, right], [text, text]):
                    refusal(NoKeeper, without, board=board, names=some)
        refusal(NoKeeper, without, board=[], names=["a"])
        refusal(NoKeeper, without, board=[(0, []), (0, [])], names=["a"])

    def test_the_told_board_is_the_askers_own(self):
        board = three_teams()
        lost = ["cid"]
        left = own_lists(lambda: without(board, lost), board, lost)
        self.assertEqual(lost_by_word(board, lost), left)
        own_lists(lambda: without(board, []), board)
        board[0][1][0][3].append("more")
        self.assertEqual(["tea", "bob"], left[0][1][0][3])


class Losses(unittest.TestCase):

    def told(self, board, one, other, free, show, number):
        with self.subTest(board=board, one=one, other=other):
            self.assertEqual(free, every_order(freeing, board=board, one=one, other=other))
            self.assertEqual(show, every_order(showing, board=board, one=one, other=other))
            self.assertEqual(number, every_order(bears, board=board, one=one, other=other))

    def test_the_example(self):
        # Behind the loss of b or of c it is not known any more; without a nobody remembers x.
        self.told(example(), "x", "y", [["b"], ["c"]], [["a", "b", "c"]], 0)
        self.told(example(), "y", "x", [[]], [], None)

    def test_rows_that_show_it_each_by_itself(self):
        rows = [("x", "y")] * 3
        board = one_team(0, *[(name, 2, True, list(row)) for name, row in zip("cab", rows)])
        self.told(board, "x", "y", [], [["a"], ["b"], ["c"]], None)
        board[0][1].append(("d", 1, True, ["x"]))
        self.told(board, "x", "y", [], [["a"], ["b"], ["c"]], None)
        board.append((0, [("e", 1, True, ["y"])]))
        self.told(board, "x", "y", [["a", "b", "c"]], [["a"], ["b"], ["c"]], 2)
        board[1][1].append(("f", 3, True, ["x", "z", "y"]))
        self.told(board, "x", "y", [["a", "b", "c", "f"]], [["a"], ["b"], ["c"], ["f"]], 3)
        self.told(board, "z", "y", [], [["f"]], None)

    def test_chains(self):
        board = one_team(0, ("a", 2, True, ["x", "y"]), ("b", 2, True, ["y", "z"]), ("c", 2, True, ["x", "w"]),
                         ("d", 2, True, ["w", "z"]))
        self.told(board, "x", "z", [["a", "d"], ["b", "c"]], [["a", "b"], ["c", "d"]], 1)
        self.told(board, "x", "y", [["a"]], [["a"]], 0)
        self.told(board, "y", "w", [[]], [], None)

    def test_by_how_many_names_and_then_rising(self):
        board = one_team(0, ("a", 1, True, ["y"]), ("b", 2, True, ["x", "w"]), ("c", 2, True, ["w", "y"]),
                         ("e", 2, True, ["x", "y"]), ("f", 1, True, ["x"]))
        self.told(board, "x", "y", [["b", "e"], ["c", "e"]], [["e"], ["b", "c"]], 1)

    def test_the_shortest_list_that_frees_counts(self):
        board = one_team(0, ("a", 2, True, ["x", "w"]), ("b", 2, True, ["w", "y"]), ("c", 1, True, ["x"]),
                         ("d", 2, True, ["w", "y"]), ("e", 1, True, ["y"]))
        self.told(board, "x", "y", [["a"], ["b", "d"]], [["a", "b"], ["a", "d"]], 0)
        board[0][1].append(("f", 2, True, ["x", "w"]))
        board[0][1][3] = ("d", 2, True, ["w", "v"])
        self.told(board, "x", "y", [["b"], ["a", "f"]], [["a", "b"], ["b", "f"]], 0)

    def test_one_thing_twice(self):
        for board in (example(), ladder(), one_team(0, ("a", 1, True, ["x"]))):
            for thing in things(board):
                self.told(board, thing, thing, [[]], [], None)

    def test_by_all_lists_of_names(self):
        seen = set()
        boards = itertools.chain([board for board, _ in itertools.islice(boards_with_orders(), 0, None, 9)],
                                 [board for board, _ in rare_boards("xyz", (1, 1, 1, 1), 2, 40)],
                                 drawn_boards(60, (2, 3), 2, 4), drawn_boards(20, (2, 0, 2), 3, 5),
                                 drawn_boards(12, (3, 1, 2), 2, 4))
        for board in boards:
            states = known_behind(board)
            for one, other in itertools.product(things(board), repeat=2):
                free, show, number = by_word(states, one, other)
                answers = freeing(board, one, other), showing(board, one, other), bears(board, one, other)
                self.assertEqual((free, show, number), answers, (board, one, other))
                self.assertTrue(all(set(some) & set(more) for some in free for more in show), (board, one, other))
                self.assertEqual(not show, [[]] == free)
                self.assertEqual(bool(show), ahead(board, one, other))
                seen.add((min(len(free), 3), min(len(show), 3), number))
        self.assertLessEqual({(0, 1, None), (1, 0, None), (1, 1, 0), (3, 1, 0), (2, 2, 1), (1, 2, 1)}, seen)

    def test_six_keepers_at_the_bounds(self):
        for seed, board in enumerate(drawn_boards(6, (3, 0, 3), 12, 10)):
            found = things(board)
            for one, other in itertools.islice(itertools.permutations(found, 2), seed, None, 17):
                free, show = freeing(board, one, other), showing(board, one, other)
                for some in free:
                    left = without(board, some)
                    self.assertFalse(ahead(left, one, other))
                    for name in some:
                        self.assertTrue(ahead(without(board, [more for more in some if more != name]), one, other))
                for some in show:
                    self.assertTrue(ahead(without(board, [name for name in names(board) if name not in some]), one,
                                          other))
                self.assertTrue(all(set(some) & set(more) for some in free for more in show))


class Refusals(unittest.TestCase):

    def test_too_many_goes_ahead_of_all(self):
        for count, more in ((7, 128), (8, 256)):
            keepers = [(name, 2, True, ["x", "y"][::sign]) for name, sign in zip("abcdefgh", (1, -1) * 4)]
            stuck = [(0, keepers[:3]), (0, keepers[3:count])]
            right = one_team(0, *[(name, 2, True, ["x", "y"]) for name, _, _, _ in keepers[:count]])
            for board in (stuck, right):
                for one, other in (("x", "y"), ("x", "x"), ("strange", ""), ("", "y")):
                    for ask in ASKS:
                        self.assertEqual(more, refusal(TooMany, ask, board=board, one=one, other=other).many)

    def test_just_six(self):
        board = [(0, [(name, 2, True, ["x", "y"]) for name in "abc"]), (0, [(name, 1, True, ["x"]) for name in "def"])]
        self.assertEqual([], freeing(board, "x", "y"))
        self.assertEqual([["a"], ["b"], ["c"]], showing(board, "x", "y"))
        board[1][1][0][3][0] = "y"
        self.assertEqual([["a", "b", "c"]], freeing(board, "x", "y"))
        self.assertEqual(2, bears(board, "x", "y"))

    def test_no_order_goes_ahead_of_no_thing(self):
        for board, lot in ((circle(), "xyz"), (two_circles(), "pqxy"), (three_teams(), ["bob", "milk", "tea"])):
            for one, other in ((lot[0], lot[1]), (lot[0], lot[0]), ("strange", ""), (lot[0], "strange")):
                for ask in ASKS:
                    self.assertEqual(list(lot), refusal(NoOrder, ask, board=board, one=one, other=other).lot)

    def test_no_thing(self):
        for board in (example(), [], one_team(1, ("x", 1, True, []))):
            for text in ["a", *STRANGE]:
                for one, other in (("x", text), (text, "x"), (text, text)):
                    for ask in ASKS:
                        refusal(NoThing, ask, board=board, one=one, other=other)


class HandedOut(unittest.TestCase):

    def test_told_lists_are_new_ones(self):
        board = one_team(0, ("a", 2, True, ["x", "y"]), ("b", 2, True, ["y", "z"]), ("c", 2, True, ["x", "w"]),
                         ("d", 2, True, ["w", "z"]))
        for ask, expected in ((freeing, [["a", "d"], ["b", "c"]]), (showing, [["a", "b"], ["c", "d"]])):
            self.assertEqual(expected, own_lists(lambda ask=ask: ask(board, "x", "z"), board))

    def test_a_board_grown_in_place(self):
        board = one_team(0, ("a", 2, True, ["x"]), ("b", 2, True, ["y"]))
        self.assertEqual(([[]], []), (freeing(board, "x", "y"), showing(board, "x", "y")))
        board[0][1][0][3].append("y")
        self.assertEqual(([], [["a"]]), (freeing(board, "x", "y"), showing(board, "x", "y")))
        board[0][1].append(("c", 1, True, ["x"]))
        self.assertEqual(([["a"]], [["a"]]), (freeing(board, "x", "y"), showing(board, "x", "y")))
        self.assertEqual(0, bears(board, "x", "y"))
        board[0][1].append(("d", 2, True, ["x", "y"]))
        self.assertEqual(1, bears(board, "x", "y"))
