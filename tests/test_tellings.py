"""What is known behind a telling, points 18, 19 and 22."""

import itertools
import random
import unittest

from dimkeepers.boards import fault, names, things
from dimkeepers.errors import NoKeeper, NoOrder, NoTelling, TooMany, Twice
from dimkeepers.known import ahead, lot_shows, pairs
from dimkeepers.tellings import behind, kindest, lost, won
from tests.helpers import (
    boards_with_orders, circle, drawn_boards, every_order, example, known_of, ladder, lots_of, one_team, own_lists,
    rare_boards, refusal, three_teams, two_circles,
)

NO_NAMES = ["", "X", "xY", "x y", "x1", "abcdefghi", "no name at all"]
STRANGE = ["zed", "", "X", "x ", "no name at all", "1", "abcdefghi"]
ASKS = [behind, lost, won]


def told_by_word(board, thing, told):
    """The board behind a telling, as point 18 tells it."""
    left = []
    for least, keepers in board:
        here = []
        for name, room, whole, row in keepers:
            row = row + [thing] if name in told else list(row)
            forgets = len(row) > room
            here.append((name, room, whole and not forgets, row[1:] if forgets else row))
        left.append((least, here))
    return left


def tellable(board):
    """All lists of names that something can be told to, by how many names, then rising."""
    return [some for some in lots_of(names(board))
            if all(len([keeper for keeper in keepers if keeper[0] in some]) >= least for least, keepers in board)]


def small():
    """Small boards that can have an order, one of them of no team, and some of several teams."""
    yield []
    yield from (board for board, _ in itertools.islice(boards_with_orders(), 0, None, 7))
    yield from (board for board, _ in rare_boards("xyz", (1, 1, 1, 1), 2, 60))
    yield from drawn_boards(40, (2, 2), 3, 4)
    yield from drawn_boards(12, (1, 2, 2), 2, 4)


class Behind(unittest.TestCase):

    def test_the_newest_thing_of_each_who_is_told(self):
        board = three_teams()
        self.assertEqual([(1, [("dan", 2, False, ["tea", "bob"]), ("ann", 3, True, ["bob", "new"])]), (0, []),
                          (2, [("cid", 1, False, ["new"]), ("bob", 12, True, ["new"]),
                               ("eve", 2, True, ["tea", "milk"])])],
                         every_order(behind, board=board, thing="new", names=["ann", "bob", "cid"]))

    def test_who_forgets_is_whole_no_more(self):
        board = one_team(0, ("a", 2, True, ["x"]), ("b", 2, True, ["x", "y"]), ("c", 1, False, ["x"]))
        board = every_order(behind, board=board, thing="z", names=["a", "b", "c"])
        self.assertEqual([(0, [("a", 2, True, ["x", "z"]), ("b", 2, False, ["y", "z"]), ("c", 1, False, ["z"])])],
                         board)
        board = behind(board, "w", ["a", "b"])
        self.assertEqual([(0, [("a", 2, False, ["z", "w"]), ("b", 2, False, ["z", "w"]), ("c", 1, False, ["z"])])],
                         board)
        self.assertEqual((0, [("a", 2, False, ["w", "x"])]), (0, [behind(board, "x", ["a"])[0][1][0]]))

    def test_told_to_nobody_all_is_as_it_was(self):
        for board in ([], [(0, [])], one_team(0, ("a", 1, True, ["x"]), ("b", 1, False, ["y"])), circle(), ladder()):
            board = [(0, keepers) for _, keepers in board]
            self.assertEqual(board, every_order(behind, board=board, thing="new", names=[]))

    def test_a_thing_called_like_a_keeper(self):
        board = every_order(behind, board=example(), thing="a", names=["a", "b"])
        self.assertEqual([(2, [("a", 1, False, ["a"]), ("b", 1, False, ["a"]), ("c", 1, False, ["y"])])], board)
        # x is there no more, so it can be told again.
        self.assertEqual(["a", "x"], things(behind(board, "x", ["b", "c"])))

    def test_a_board_without_an_order(self):
        board = circle()
        self.assertEqual(told_by_word(board, "new", ["a"]), every_order(behind, board=board, thing="new", names=["a"]))

    def test_small_boards(self):
        for board in small():
            for told in tellable(board):
                left = behind(board, "new", told)
                self.assertEqual(told_by_word(board, "new", told), left)
                self.assertIsNone(fault(left))

    def test_names_of_all_lengths(self):
        for thing in ("a", "zzzzzzzz", "abcdefgh"):
            self.assertEqual([thing], things(behind(one_team(0, ("k", 1, True, ["x"])), thing, ["k"])))


class LostAndWon(unittest.TestCase):

    def told(self, board, names, gone, gained, thing="new"):
        with self.subTest(board=board, names=names):
            self.assertEqual(gone, every_order(lost, board=board, thing=thing, names=names))
            self.assertEqual(gained, every_order(won, board=board, thing=thing, names=names))

    def test_the_example(self):
        self.told(example(), ["a", "b"], [], [("y", "z")], "z")
        self.told(example(), ["b", "c"], [], [("x", "z")], "z")
        # y stays, but that x was ahead of it is known no more.
        self.told(example(), ["a", "c"], [], [("y", "z")], "z")
        self.told(example(), ["a", "b", "c"], [], [], "z")

    def test_a_pair_of_things_still_remembered_goes_lost(self):
        board = one_team(0, ("a", 2, True, ["x", "y"]), ("b", 1, False, ["x"]), ("c", 1, True, ["y"]))
        self.told(board, ["a"], [("x", "y")], [("y", "new")])
        self.told(board, ["b"], [], [])
        # x is remembered no more, so no pair of it counts as lost.
        self.told(board, ["a", "b"], [], [("y", "new")])
        self.told(board, [], [], [])

    def test_the_new_thing_is_known_behind_what_a_row_has_and_what_is_ahead_of_that(self):
        board = one_team(0, ("a", 3, True, ["x", "y"]), ("b", 3, True, ["y", "z"]), ("c", 1, True, ["w"]))
        self.told(board, ["a"], [], [("x", "new"), ("y", "new")])
        self.told(board, ["b"], [], [("x", "new"), ("y", "new"), ("z", "new")])
        self.told(board, ["c"], [], [])
        self.told(board, ["a", "c"], [], [("x", "new"), ("y", "new")])

    def test_lists_rise(self):
        board = one_team(0, ("a", 4, True, ["d", "c", "b", "a"]), *[(name, 1, True, [name]) for name in "cdb"])
        self.told(board, ["a"], [("d", "a"), ("d", "b"), ("d", "c")], [("a", "e"), ("b", "e"), ("c", "e")], "e")

    def test_by_all_orders_of_small_boards(self):
        lost_some = 0
        for board in small():
            known = known_of(board)
            for told in tellable(board):
                left = told_by_word(board, "new", told)
                still, found = known_of(left), things(left)
                gone = [pair for pair in known if set(pair) <= set(found) and pair not in still]
                self.assertEqual(sorted(gone), lost(board, "new", told), (board, told))
                self.assertEqual(sorted(pair for pair in still if "new" in pair), won(board, "new", told),
                                 (board, told))
                lost_some += bool(gone)
        self.assertGreater(lost_some, 100)


class Point22(unittest.TestCase):

    def test_of_elder_things_nothing_is_known_that_was_not(self):
        for board in small():
            known = set(pairs(board))
            for told in tellable(board):
                self.assertLessEqual({pair for pair in pairs(behind(board, "new", told)) if "new" not in pair}, known)

    def test_a_lot_shows_a_pair_ahead_of_the_telling_with_what_stood_ahead(self):
        shown = 0
        for board in small():
            rows = [row for _, keepers in board for _, _, _, row in keepers]
            for told in tellable(board):
                left = behind(board, "new", told)
                for one, other in (pair for pair in pairs(left) if "new" not in pair):
                    for lot in lots_of(things(left)):
                        if lot_shows(left, one, other, lot):
                            stood = {thing for row in rows for some in row if some in [*lot, other]
                                     for thing in row[:row.index(some)]}
                            self.assertTrue(lot_shows(board, one, other, sorted({*lot, *stood})), (board, told, lot))
                            shown += 1
        self.assertGreater(shown, 1000)


class Kindest(unittest.TestCase):

    def told(self, board, names):
        self.assertEqual(names, every_order(kindest, board=board, thing="new"), board)

    def test_as_few_lost_as_can_be(self):
        board = one_team(1, ("a", 2, True, ["x", "y"]), ("b", 3, True, ["x"]))
        # Told to both more would be won, but that x was ahead of y is lost.
        self.told(board, ["b"])
        self.assertEqual([("x", "y")], lost(board, "new", ["a", "b"]))
        self.assertEqual([("x", "new"), ("y", "new")], won(board, "new", ["a", "b"]))
        self.assertEqual([("x", "new")], won(board, "new", ["b"]))

    def test_pairs_of_what_all_forget_are_not_lost(self):
        board = one_team(1, ("a", 2, True, ["x", "y"]), ("b", 1, True, ["x"]), ("c", 1, True, ["y"]))
        self.told(board, ["a", "b"])
        self.assertEqual(([("x", "y")], []), (lost(board, "new", ["a"]), lost(board, "new", ["a", "b"])))

    def test_as_many_won_as_can_be(self):
        board = one_team(1, ("a", 2, True, []), ("b", 4, True, ["x"]), ("c", 4, True, ["y", "z"]))
        self.told(board, ["b", "c"])
        self.told([(0, board[0][1])], ["b", "c"])

    def test_the_fewest_names(self):
        board = one_team(0, ("a", 4, True, ["x"]), ("b", 4, True, ["x", "y"]), ("c", 4, True, ["x", "y"]))
        self.told(board, ["b"])
        self.told([(2, board[0][1])], ["a", "b"])

    def test_the_first_list(self):
        self.told(one_team(1, ("c", 2, True, []), ("b", 2, True, []), ("a", 1, True, [])), ["a"])
        self.told(one_team(1, ("c", 2, True, ["x"]), ("b", 2, True, ["x"]), ("a", 1, True, [])), ["b"])
        self.told(one_team(2, ("c", 2, True, ["x"]), ("b", 2, True, ["x"]), ("a", 1, True, [])), ["a", "b"])

    def test_nobody(self):
        for board in ([], [(0, [])], one_team(0, ("a", 1, True, []), ("b", 3, True, [])),
                      one_team(0, ("a", 1, True, ["x"]), ("b", 1, False, ["y"]))):
            self.told(board, [])

    def test_each_team_is_told(self):
        board = [(1, [("c", 2, True, ["x"]), ("d", 3, True, ["y"])]),
                 (2, [("a", 4, True, ["x", "y"]), ("b", 4, True, ["x", "y"])])]
        self.told(board, ["a", "b", "c"])
        self.told([(1, [("c", 1, True, []), ("d", 1, True, [])]), (1, [("a", 1, True, []), ("b", 1, True, [])])],
                  ["a", "c"])

    def test_by_all_lists_of_names(self):
        seen = set()
        for board in itertools.chain(small(), drawn_boards(6, (3, 1, 2), 2, 4)):
            known = known_of(board)
            best = []
            for told in tellable(board):
                left = told_by_word(board, "new", told)
                still, found = known_of(left), things(left)
                gone = [pair for pair in known if set(pair) <= set(found) and pair not in still]
                best.append((len(gone), -len([pair for pair in still if "new" in pair]), len(told), told))
            self.assertEqual(min(best)[3], kindest(board, "new"), board)
            seen.add((min(best)[0] > 0, len(min(best)[3])))
        self.assertLessEqual({(False, 0), (False, 1), (False, 2), (True, 1), (True, 2)}, seen)

    def test_six_keepers_at_the_bounds(self):
        chance = random.Random(1)
        for board in drawn_boards(3, (3, 0, 3), 12, 10):
            told = kindest(board, "new")
            least = (len(lost(board, "new", told)), -len(won(board, "new", told)), len(told), told)
            for some in chance.sample(tellable(board), min(20, len(tellable(board)))):
                self.assertLessEqual(least,
                                     (len(lost(board, "new", some)), -len(won(board, "new", some)), len(some), some))


class Refusals(unittest.TestCase):

    def test_twice_goes_first(self):
        for board in (example(), circle(), three_teams()):
            for thing in [*things(board), *NO_NAMES]:
                for told in ([], names(board), ["zed"], names(board)[::-1], [""], names(board)[:1] * 2):
                    for ask in ASKS:
                        refusal(Twice, ask, board=board, thing=thing, names=told)
        for ask in ASKS:
            refusal(Twice, ask, board=[], thing="", names=[])

    def test_no_keeper_goes_ahead_of_no_telling(self):
        for board in (example(), circle(), three_teams()):
            right = names(board)
            for text in STRANGE:
                for told in ([text], [right[1], text], [text, *right[::-1]], [*right, text],
                             [right[0], right[0], text]):
                    for ask in ASKS:
                        refusal(NoKeeper, ask, board=board, thing="new", names=told)

    def test_no_telling_for_too_few_of_a_team(self):
        board = [(2, [("a", 1, True, []), ("b", 1, True, []), ("c", 1, True, [])]), (0, []), (1, [("d", 2, True, [])])]
        for told in lots_of(list("abcd")):
            enough = "d" in told and len(told) > 2
            for ask in ASKS:
                if enough:
                    ask(board, "new", told)
                else:
                    refusal(NoTelling, ask, board=board, thing="new", names=told)

    def test_no_telling_of_names_that_do_not_rise(self):
        for told in (["b", "a"], ["a", "c", "b"], ["a", "a"], ["a", "b", "b"], ["c", "b", "a"], ["b", "c", "a"]):
            for ask in ASKS:
                refusal(NoTelling, ask, board=example(), thing="new", names=told)

    def test_no_telling_goes_ahead_of_no_order(self):
        board = [(1, circle()[0][1])]
        for told in ([], ["b", "a"], ["a", "a"]):
            for ask in ASKS:
                refusal(NoTelling, ask, board=board, thing="new", names=told)

    def test_no_order_of_the_board_handed_in(self):
        # Behind the telling a thing of the stuck lot is forgotten, and nothing is stuck any more.
        short = [(0, [("a", 2, True, ["x", "y"]), ("b", 2, True, ["y", "x"])])]
        self.assertEqual([("x", "new")], pairs(behind(short, "new", ["a", "b"]))[:1])
        for board, lot in ((circle(), "xyz"), (two_circles(), "pqxy"), (three_teams(), ["bob", "milk", "tea"]),
                           (short, "xy")):
            for ask in (lost, won):
                self.assertEqual(list(lot), refusal(NoOrder, ask, board=board, thing="new", names=names(board)).lot)
            for thing in ("new", *things(board), *NO_NAMES):
                self.assertEqual(list(lot), refusal(NoOrder, kindest, board=board, thing=thing).lot)

    def test_kindest_of_too_many(self):
        for count, more in ((7, 128), (8, 256)):
            keepers = [(name, 2, True, ["x", "y"][::sign]) for name, sign in zip("abcdefgh", (1, -1) * 4)]
            for board in ([(0, keepers[:3]), (1, keepers[3:count])],
                          [(0, [(name, 1, True, []) for name in "abcdefgh"[:count]])]):
                for thing in ("new", "x", ""):
                    self.assertEqual(more, refusal(TooMany, kindest, board=board, thing=thing).many)

    def test_kindest_of_a_thing_that_is_there(self):
        for board in (example(), ladder(), []):
            for thing in [*things(board), *NO_NAMES]:
                refusal(Twice, kindest, board=board, thing=thing)

    def test_behind_lost_and_won_of_more_than_six(self):
        board = [(1, [(name, 2, True, ["x"]) for name in "abcdefgh"])]
        self.assertEqual([("x", "new")], won(board, "new", ["h"]))
        self.assertEqual([], lost(board, "new", list("abcdefgh")))


class HandedOut(unittest.TestCase):

    def test_told_lists_are_new_ones(self):
        board = one_team(0, ("a", 2, True, ["x", "y"]), ("b", 2, False, ["x", "w"]), ("c", 1, True, ["y"]))
        told = ["a"]
        self.assertEqual(told_by_word(board, "new", told), own_lists(lambda: behind(board, "new", told), board, told))
        own_lists(lambda: behind(board, "new", []), board)
        self.assertEqual([("x", "y")], own_lists(lambda: lost(board, "new", told), board, told))
        self.assertEqual([("y", "new")], own_lists(lambda: won(board, "new", told), board, told))
        self.assertEqual(kindest(board, "new"), own_lists(lambda: kindest(board, "new"), board))

    def test_a_board_grown_in_place(self):
        board = one_team(0, ("a", 1, True, ["x"]), ("b", 3, True, ["y"]))
        self.assertEqual([("y", "new")], won(board, "new", ["b"]))
        board[0][1][1][3].insert(0, "x")
        self.assertEqual([("x", "new"), ("y", "new")], won(board, "new", ["b"]))
        self.assertEqual(["b"], kindest(board, "new"))
        board[0][1].append(("c", 4, True, ["y", "z"]))
        self.assertEqual(["c"], kindest(board, "new"))
        self.assertTrue(ahead(behind(board, "new", ["c"]), "x", "new"))
        refusal(Twice, won, board=board, thing="z", names=[])
