"""Boards and their faults, point 4."""

import copy
import unittest

from dimkeepers.boards import fault
from tests.helpers import every_order, example, three_teams

HUGE = 10 ** 20 - 1


def of_team(team):
    """A board that has this team in its place 1."""
    return [(0, []), team, (1, [("zoe", 1, True, [])])]


def of_keepers(keepers, least=0):
    return [(least, keepers)]


def of_keeper(keeper):
    """A board that has this keeper in its place 0, 1."""
    return [(1, [("zoe", 1, True, []), keeper])]


class RightBoards(unittest.TestCase):

    def fine(self, board):
        with self.subTest(board=board):
            self.assertIsNone(every_order(fault, board=board))

    def test_right_boards_have_none(self):
        self.fine(example())
        self.fine(three_teams())

    def test_a_board_without_teams(self):
        self.fine([])

    def test_teams_without_keepers(self):
        self.fine([(0, [])])
        self.fine([(0, []), (0, []), (0, [])])

    def test_each_room(self):
        for room in range(1, 13):
            self.fine(of_keeper(("ann", room, True, [])))
            self.fine(of_keeper(("ann", room, True, list("abcdefghijkl")[:room])))
            self.fine(of_keeper(("ann", room, False, list("abcdefghijkl")[:room])))

    def test_each_least_up_to_the_number_of_keepers(self):
        keepers = [("ann", 1, True, []), ("bob", 1, True, []), ("cid", 1, True, [])]
        for least in range(4):
            self.fine(of_keepers(keepers, least))

    def test_names_of_one_and_of_eight_letters(self):
        for name in ("a", "z", "abcdefgh", "zzzzzzzz"):
            self.fine(of_keeper((name, 1, True, [])))
            self.fine(of_keeper(("ann", 1, True, [name])))

    def test_a_whole_one_may_have_a_row_of_any_length(self):
        for row in ([], ["x"], ["x", "y"], ["y", "x", "z"]):
            self.fine(of_keeper(("ann", 3, True, row)))

    def test_a_thing_may_be_called_like_a_keeper(self):
        self.fine(of_keeper(("ann", 2, True, ["ann", "zoe"])))

    def test_one_thing_in_several_rows(self):
        self.fine([(0, [("a", 1, True, ["x"]), ("b", 1, True, ["x"])]), (0, [("c", 1, True, ["x"])])])

    def test_more_teams_and_keepers_are_no_fault(self):
        self.fine([(0, [])] * 5)
        self.fine(of_keepers([(name, 1, True, []) for name in "abcdefghijkl"], 12))


class TeamFaults(unittest.TestCase):

    def wrong(self, team):
        with self.subTest(team=team):
            self.assertEqual(("team", 1), every_order(fault, board=of_team(team)))

    def test_keepers_that_are_no_list(self):
        for keepers in (0, 1, HUGE, True, False, "", "ann", ("ann", 1, True, []), ()):
            self.wrong((0, keepers))

    def test_a_least_that_is_no_whole_number(self):
        keepers = [("ann", 1, True, []), ("bob", 1, True, [])]
        for least in (True, False, "", "0", "1", [], [0], [1], [(1, 2)]):
            self.wrong((least, keepers))

    def test_a_least_below_zero(self):
        for least in (-1, -2, -HUGE):
            self.wrong((least, [("ann", 1, True, [])]))
            self.wrong((least, []))

    def test_a_least_of_one_more_than_there_are(self):
        keepers = [("ann", 1, True, []), ("bob", 1, True, []), ("cid", 1, True, [])]
        for many in range(4):
            for least in (many + 1, many + 2, HUGE):
                self.wrong((least, keepers[:many]))

    def test_a_team_that_is_no_tuple_of_two(self):
        for team in (0, 2, True, False, "", "ab", [], [0, []], (), (0,), (0, [], 0), ([],)):
            self.wrong(team)


class KeeperFaults(unittest.TestCase):

    def wrong(self, keeper):
        with self.subTest(keeper=keeper):
            self.assertEqual(("keeper", 0, 1), every_order(fault, board=of_keeper(keeper)))

    def test_a_keeper_that_is_no_tuple_of_four(self):
        for keeper in (0, 4, True, False, "", "ann", "abcd", [], ["ann", 1, True, []], [("ann", 1, True, [])],
                       (), ("ann",), ("ann", 1, True), ("ann", 1, True, [], 0)):
            self.wrong(keeper)

    def test_a_name_that_is_no_text(self):
        for name in (0, 1, HUGE, True, False, [], ["ann"], list("ann"), [("ann", 1)]):
            self.wrong((name, 1, True, []))

    def test_a_name_that_is_none(self):
        for name in ("", "ninesigns", "a" * 4000, "Ann", "ANN", "a b", " ann", "ann ", "a1", "1", "a-b", "a_b",
                     "ann\n", "\n", "~", "`", "{", "@", "[", "?"):
            self.wrong((name, 1, True, []))

    def test_a_room_that_is_none(self):
        for room in (0, 13, -1, -12, 14, HUGE, -HUGE, True, False, "", "1", "x", [], [1], [(1, 1)]):
            self.wrong(("ann", room, True, []))
            self.wrong(("ann", room, False, ["x"]))
            self.wrong(("ann", room, True, ["x"]))

    def test_a_whole_that_is_no_truth(self):
        for whole in (0, 1, -1, 2, HUGE, "", "True", "whole", [], [True], [(True, False)]):
            self.wrong(("ann", 1, whole, ["x"]))

    def test_a_row_that_is_no_list(self):
        for row in (0, 1, HUGE, True, False, "", "x", "xy", (), ("x",)):
            self.wrong(("ann", 2, True, row))

    def test_a_thing_that_is_no_name(self):
        for thing in (0, 1, True, False, "", "ninesigns", "X", "x y", "x1", "x\n", [], ["x"], [[]], ("x",), ("x", 1)):
            self.wrong(("ann", 3, True, [thing]))
            self.wrong(("ann", 3, True, ["x", thing]))
            self.wrong(("ann", 3, False, [thing, "x", "y"]))

    def test_a_thing_twice_in_a_row(self):
        self.wrong(("ann", 2, True, ["x", "x"]))
        self.wrong(("ann", 3, True, ["x", "y", "x"]))
        self.wrong(("ann", 3, False, ["x", "y", "y"]))

    def test_a_row_longer_than_the_room(self):
        self.wrong(("ann", 1, True, ["x", "y"]))
        self.wrong(("ann", 1, False, ["x", "y"]))
        self.wrong(("ann", 12, True, list("abcdefghijklm")))

    def test_one_that_is_not_whole_with_a_row_shorter_than_its_room(self):
        self.wrong(("ann", 1, False, []))
        self.wrong(("ann", 3, False, ["x", "y"]))
        self.wrong(("ann", 12, False, list("abcdefghijk")))


class SeveralFaults(unittest.TestCase):

    def told(self, found, board):
        with self.subTest(board=board):
            self.assertEqual(found, every_order(fault, board=board))

    def test_a_fault_is_a_tuple(self):
        ann = ("ann", 1, True, [])
        for board in ([(1, [])], of_keepers([5]), of_keepers([ann, ann])):
            self.assertIsInstance(fault(board), tuple)

    def test_a_name_twice_in_one_team(self):
        ann, bob = ("ann", 1, True, []), ("bob", 1, True, [])
        self.told(("twice", 0, 1), of_keepers([ann, ann]))
        self.told(("twice", 0, 2), of_keepers([ann, bob, ("ann", 2, False, ["x", "y"])]))

    def test_a_name_twice_in_two_teams(self):
        ann, bob = ("ann", 1, True, []), ("bob", 1, True, [])
        self.told(("twice", 1, 0), [(0, [ann]), (0, [ann])])
        self.told(("twice", 2, 1), [(0, [ann]), (0, []), (0, [bob, ann])])

    def test_a_name_three_times_is_told_of_the_second_one(self):
        ann = ("ann", 1, True, [])
        self.told(("twice", 0, 1), [(0, [ann, ann]), (0, [ann])])

    def test_of_one_keeper_keeper_goes_ahead_of_twice(self):
        ann = ("ann", 1, True, [])
        for wrong in (("ann", 0, True, []), ("ann", 1, 1, []), ("ann", 1, False, []), ("ann", 1, True, ["X"])):
            self.told(("keeper", 0, 1), of_keepers([ann, wrong]))
            self.told(("keeper", 1, 0), [(0, [ann]), (0, [wrong])])

    def test_an_earlier_twice_goes_ahead_of_a_later_keeper(self):
        ann = ("ann", 1, True, [])
        self.told(("twice", 0, 1), of_keepers([ann, ann, 5]))
        self.told(("keeper", 0, 1), of_keepers([ann, 5, ann]))
        self.told(("keeper", 0, 0), of_keepers([5, 5, ann, ann]))

    def test_a_team_goes_ahead_of_its_keepers(self):
        self.told(("team", 0), [(7, [5, 5])])
        self.told(("team", 0), [(True, [("ann", 1, True, []), ("ann", 1, True, [])])])
        self.told(("team", 1), [(0, []), (-1, [5])])

    def test_keepers_go_ahead_of_the_next_team(self):
        ann = ("ann", 1, True, [])
        self.told(("keeper", 0, 1), [(0, [ann, 5]), (9, []), 5])
        self.told(("twice", 0, 1), [(0, [ann, ann]), (9, [])])
        self.told(("team", 1), [(0, [ann]), (9, [ann]), (0, [5])])
        self.told(("keeper", 2, 0), [(0, [ann]), (0, []), (0, [5]), (0, 5)])

    def test_the_first_of_two_teams(self):
        self.told(("team", 0), [(1, []), (1, [])])
        self.told(("team", 1), [(0, []), (1, []), (1, [])])

    def test_a_board_is_looked_at_anew_each_time(self):
        board = three_teams()
        self.told(None, board)
        board[2][1].append(("ann", 1, True, []))
        self.told(("twice", 2, 3), board)
        board[0][1][1][3].append("bob")
        self.told(("keeper", 0, 1), board)
        board[0] = (3, board[0][1])
        self.told(("team", 0), board)

    def test_each_place_by_itself_can_hold_anything(self):
        odd = [-1, 3, True, False, "", "Odd", [], [0], [True], ["x"], [[]], [("x", 1)], [("ann", 1, True, [])]]
        right = three_teams()
        for t, (least, keepers) in enumerate(right):
            for k, keeper in enumerate(keepers):
                for at in range(4):
                    for found in odd:
                        self.place_can_hold(right, (t, k, at), found)

    def place_can_hold(self, right, place, found):
        t, k, at = place
        board = copy.deepcopy(right)
        keeper = list(board[t][1][k])
        keeper[at] = found
        board[t][1][k] = tuple(keeper)
        self.assertIn(every_order(fault, board=board), (("keeper", t, k), None))
