"""Boards as texts, point 24."""

import itertools
import random
import re
import unittest

from dimkeepers.boards import fault
from dimkeepers.errors import NoText
from dimkeepers.texts import read, written
from tests.helpers import (
    circle, drawn_boards, every_order, example, one_team, own_lists, refusal, small_boards, three_teams,
)

TEAM = re.compile("team (0|[1-9][0-9]{0,8})")
KEEPER = re.compile("([a-z]{1,8}) (0|[1-9][0-9]{0,8})( whole)?:((?: [a-z]{1,8}){0,12})")
THREE_TEAMS = "\n".join(["team 1", "dan 2: tea bob", "ann 3 whole: bob", "team 0", "team 2", "cid 1: milk",
                         "bob 12 whole:", "eve 2 whole: tea milk"])


def by_word(text):
    """The board of a text, or the number of the row that point 24 refuses it with."""
    board, places, rows = [], [], text.split("\n") if text else []
    for row in rows:
        team, keeper = TEAM.fullmatch(row), KEEPER.fullmatch(row)
        if team and len(board) < 3:
            places.append(("team", len(board)))
            board.append((int(team[1]), []))
        elif keeper and not team and board and len(places) - len(board) < 8:
            places.append(("keeper", len(board) - 1, len(board[-1][1])))
            board[-1][1].append((keeper[1], int(keeper[2]), bool(keeper[3]), keeper[4].split()))
        else:
            break
    wrong = fault(board)
    if wrong is not None:
        return places.index(("keeper", *wrong[1:]) if wrong[0] == "twice" else wrong)
    return board if len(places) == len(rows) else len(places)


class Written(unittest.TestCase):

    def told(self, text, board):
        self.assertEqual(text, every_order(written, board=board))
        self.assertEqual(board, every_order(read, text=text))

    def test_three_teams(self):
        self.told(THREE_TEAMS, three_teams())

    def test_the_example(self):
        self.told("team 2\na 1: x\nb 1: y\nc 1: y", example())

    def test_no_teams(self):
        self.told("", [])

    def test_teams_without_keepers(self):
        self.told("team 0", [(0, [])])
        self.told("team 0\nteam 0\nteam 0", [(0, []), (0, []), (0, [])])
        self.told("team 0\nteam 1\nann 1 whole:", [(0, []), (1, [("ann", 1, True, [])])])

    def test_rows_of_all_lengths(self):
        row = [letter * length for letter, length in zip("abcdefghijkl", itertools.cycle((1, 8, 3)))]
        for count in range(13):
            text = " ".join(row[:count])
            self.told(f"team 0\nann 12 whole:{' ' * (count > 0)}{text}", one_team(0, ("ann", 12, True, row[:count])))
            if count:
                self.told(f"team 1\nabcdefgh {count}: {text}", one_team(1, ("abcdefgh", count, False, row[:count])))

    def test_names_that_are_words_of_the_text(self):
        self.told("team 1\nteam 2 whole: whole team\nwhole 1: team",
                  one_team(1, ("team", 2, True, ["whole", "team"]), ("whole", 1, False, ["team"])))
        self.told("team 2\nteam 1: whole\nwhole 3 whole:",
                  one_team(2, ("team", 1, False, ["whole"]), ("whole", 3, True, [])))

    def test_small_boards_and_drawn_ones(self):
        boards = itertools.chain(small_boards("xy", (2, 1), 1), drawn_boards(40, (3, 2, 3), 12, 10), [circle()])
        for board in boards:
            self.assertEqual(board, read(written(board)))
            self.assertEqual(written(board), written(read(written(board))))
            self.assertEqual(board, by_word(written(board)))

    def test_the_greatest_board(self):
        row = ["abcdefgh"[k:] + "abcdefgh"[:k] for k in range(8)] + ["zzzzzzzz", "y", "x", "w"]
        board = [(least, [(name * 8, 12, False, row) for name in some])
                 for least, some in ((3, "abc"), (0, "def"), (2, "gh"))]
        self.assertEqual(board, read(written(board)))


class NoTexts(unittest.TestCase):

    def wrong(self, row, text):
        with self.subTest(text):
            self.assertEqual(row, refusal(NoText, read, text=text).row)
            self.assertEqual(row, by_word(text))

    def test_rows_of_teams(self):
        for row in ("", " ", "team", "team ", "team  0", " team 0", "team 0 ", "team 0 0", "team:0", "Team 0",
                    "team -0", "team +0", "team 00", "team 01", "team 0x", "team 1q", "team q", "team x", "team 1.0",
                    "team 1_0", "tea 0", "team\t0", "team 1000000000", "team 0123456789", "team 0:", "team whole",
                    "teams 0", "team 0 whole:", "0", "team \u0660", "team 1\u0661", "team \u00b2", "team 0\r",
                    "team 0\u2028", "\u00a0team 0", "team 0\x0b"):
            if row:
                self.wrong(0, row)
            self.wrong(0, row + "\nteam 0")
            self.wrong(0, row + "\nnonsense")
        self.wrong(1, "team 0\n")
        self.wrong(1, "team 0\n\nteam 0")
        self.wrong(0, "\n")
        self.wrong(0, "\nteam 0")
        self.wrong(2, "team 0\nteam 0\n")

    def test_rows_of_keepers(self):
        for row in ("ann", "ann 3", "ann 3 whole", "ann 3 whole:x", "ann 3:x", "ann 3 whole: ", "ann 3: ",
                    " ann 3 whole:", "ann  3 whole:", "ann 3  whole:", "ann 3 whole:  x", "ann 3 whole: x  y",
                    "ann 3 whole: x ", "ann 3 :", "ann 3 Whole:", "ann 3 whole :", "ann 3 half:", "ann 3whole:",
                    "ann whole:", "ann :", "ann", "3 whole:", "Ann 3 whole:", "an2 3 whole:", "abcdefghi 3 whole:",
                    "ann 03 whole:", "ann 0000000001 whole:", "ann 1234567890 whole:", "ann x whole:",
                    "ann -3 whole:", "ann 3.0 whole:", "ann 3 whole: X", "ann 3 whole: x1", "ann 3 whole: abcdefghi",
                    "ann 3 whole: x,y", "ann 3 whole:: x", "ann 3:: x", "ann 3: x:", "ann 3 whole: x\ty",
                    "ann: 3 whole", "ann 3 whole:\tx", "ann 3 whole: \u00e4", "\u00e4nn 3 whole:",
                    "ann \u0663 whole:", "ann 3 whole: x\r", "", " ", "  ", ":", "ann 3 whole: whole:",
                    "ann 3: whole:", "ann 1 2 whole:", "ann 3 whole whole:", "ann 3 whole: x\x00", "ann 3 %whole:",
                    "ann 3% whole:"):
            self.wrong(1, "team 0\n" + row)
            self.wrong(2, "team 0\nbob 1 whole:\n" + row + "\nnonsense")
            self.wrong(3, "team 1\nbob 1 whole:\nteam 0\n" + row)
            self.wrong(0, row + "\nteam 0")

    def test_a_keeper_ahead_of_any_team(self):
        self.wrong(0, "ann 3 whole:")
        self.wrong(0, "ann 3 whole:\nteam 0")
        self.wrong(0, "team 3:\nteam 0")

    def test_a_fourth_team(self):
        self.wrong(3, "team 0\nteam 0\nteam 0\nteam 0")
        self.wrong(5, "team 0\nann 1 whole:\nteam 0\nteam 1\nbob 1 whole:\nteam 0\ncid 1 whole:")
        self.wrong(3, "team 0\nteam 0\nteam 0\nteam 0000")

    def test_a_ninth_keeper(self):
        keepers = [f"{name} 1 whole:" for name in "abcdefghi"]
        self.wrong(9, "\n".join(["team 8", *keepers]))
        self.wrong(11, "\n".join(["team 0", *keepers[:3], "team 5", *keepers[3:8], "team 0", keepers[8]]))
        self.assertEqual(8, len(read("\n".join(["team 8", *keepers[:8]]))[0][1]))

    def test_a_thirteenth_thing(self):
        row = " ".join("abcdefghijklm")
        for head in ("ann 12 whole:", "ann 12:", "ann 13 whole:"):
            self.wrong(1, f"team 0\n{head} {row}")
            # Its row is not so written, so the team has a keeper less than its least.
            self.wrong(0, f"team 1\n{head} {row}")

    def test_faults(self):
        self.wrong(0, "team 1")
        self.wrong(0, "team 3\nann 1 whole:\nbob 1 whole:\nteam 0")
        self.wrong(3, "team 1\nann 1 whole:\nbob 1 whole:\nteam 999999999\ncid 1 whole:")
        self.wrong(1, "team 1\nann 0 whole:")
        self.wrong(1, "team 1\nann 13 whole:")
        self.wrong(1, "team 1\nann 123456789 whole:")
        # A tenth figure is not so written, and without this row the team has too few keepers.
        self.wrong(0, "team 1\nann 1234567890 whole:")
        self.wrong(2, "team 1\nann 1 whole:\nbob 2: x")
        self.wrong(2, "team 1\nann 1 whole:\nbob 2:")
        self.wrong(2, "team 1\nann 1 whole:\nbob 2 whole: x y z")
        self.wrong(2, "team 1\nann 1 whole:\nbob 2: x x")
        self.wrong(4, "team 1\nann 1 whole:\nteam 0\ncid 1 whole:\nann 2: x y")
        self.wrong(2, "team 1\nann 1 whole:\nann 2: x y")

    def test_a_fault_ahead_of_a_row_not_so_written(self):
        self.wrong(1, "team 0\nann 13 whole:\nbob 1 whole:\nnonsense")
        self.wrong(2, "team 0\nann 1 whole:\nann 1 whole:\n")
        self.wrong(0, "team 2\nann 1 whole:\nnonsense\nbob 1 whole:")
        self.wrong(0, "team 1\nnonsense")
        self.wrong(2, "team 0\nann 1 whole:\nteam 1\nnonsense\nbob 1 whole:")
        self.wrong(0, "\n".join(["team 9", *[f"{name} 1 whole:" for name in "abcdefghi"]]))
        self.wrong(0, "team 1\nteam 0\nteam 0\nteam 0")

    def test_a_row_not_so_written_ahead_of_a_fault(self):
        self.wrong(1, "team 0\nnonsense\nann 13 whole:")
        self.wrong(2, "team 1\nann 1 whole:\n\nteam 5")
        self.wrong(1, "team 0\nabcdefghi 1 whole:\nteam 5")

    def test_changed_texts(self):
        texts = [THREE_TEAMS, "team 2\na 1: x\nb 1: y\nc 1: y", "team 0\nteam 0\nann 2: x y\nbob 3 whole:\nteam 0",
                 *[written(board) for board in drawn_boards(10, (2, 1, 2), 4, 6)]]
        seen = set()
        for seed in range(3000):
            chance = random.Random(seed)
            text = chance.choice(texts)
            for _ in range(chance.randint(1, 2)):
                at = chance.randint(0, len(text))
                some = chance.choice(["", *" \n0123:aexywteam", "\n\n", "0 ", " whole", "\nteam 0", "\nzed 1: x", text])
                text = text[:at] + some + text[at + chance.randint(0, 2):]
            expected = by_word(text)
            if isinstance(expected, list):
                self.assertEqual(expected, read(text), text)
                seen.add("board")
            else:
                with self.assertRaises(NoText, msg=text) as caught:
                    read(text)
                self.assertEqual(expected, caught.exception.row, text)
                seen.add(expected)
        self.assertLessEqual({"board", *range(7)}, seen)


class HandedOut(unittest.TestCase):

    def test_told_lists_are_new_ones(self):
        self.assertEqual(three_teams(), own_lists(lambda: read(THREE_TEAMS)))
        self.assertEqual([], own_lists(lambda: read("")))
        board = three_teams()
        again = read(written(board))
        board[0][1][0][3].clear()
        self.assertEqual(three_teams(), again)

    def test_a_board_changed_in_place(self):
        board = one_team(0, ("ann", 3, True, ["x"]))
        self.assertEqual("team 0\nann 3 whole: x", written(board))
        board[0][1][0][3].append("y")
        board.append((0, []))
        self.assertEqual("team 0\nann 3 whole: x y\nteam 0", written(board))
