"""Boards as texts: a row for each team, and behind it one for each of its keepers."""

from dimkeepers.boards import MOST_KEEPERS, MOST_ROOM, MOST_TEAMS, fault, is_name, keepers_of
from dimkeepers.errors import NoText

FIGURES = "0123456789"
MOST_FIGURES = 9


def is_figures(word):
    """Whether a number is so written: one to nine figures, and no 0 ahead of others."""
    if not 1 <= len(word) <= MOST_FIGURES or not all(sign in FIGURES for sign in word):
        return False
    return word == "0" or word[0] != "0"


def written_keeper(name, room, whole, row):
    """The row of text of a keeper."""
    head = [name, f"{room}", "whole:"] if whole else [name, f"{room}:"]
    return " ".join([*head, *row])


def written(board):
    """The text of a board."""
    rows = []
    for least, keepers in board:
        rows.append(f"team {least}")
        for name, room, whole, row in keepers:
            rows.append(written_keeper(name, room, whole, row))
    return "\n".join(rows)


def least_in(row):
    """The least of the team that a row of text writes, or None."""
    words = row.split(" ")
    if len(words) == 2 and words[0] == "team" and is_figures(words[1]):
        return int(words[1])
    return None


def keeper_in(row):
    """The keeper that a row of text writes, or None."""
    words = row.split(" ")
    whole = len(words) > 2 and words[2] == "whole:"
    if whole:
        room = words[1]
        told = words[3:]
    elif len(words) > 1 and words[1].endswith(":"):
        room = words[1][:-1]
        told = words[2:]
    else:
        return None
    if not is_figures(room) or len(told) > MOST_ROOM or not all(is_name(word) for word in [words[0], *told]):
        return None
    return (words[0], int(room), whole, told)


def put_row(board, row):
    """Put on the board what a row of text writes; whether it is so written."""
    least = least_in(row)
    if least is not None:
        if len(board) == MOST_TEAMS:
            return False
        board.append((least, []))
        return True
    keeper = keeper_in(row)
    if keeper is None or not board or len(keepers_of(board)) == MOST_KEEPERS:
        return False
    board[-1][1].append(keeper)
    return True


def row_of(board, place):
    """The number of the row of text that writes what stands at a fault's place."""
    t = place[1]
    row = t + len(keepers_of(board[:t]))
    return row if place[0] == "team" else row + 1 + place[2]


def read(text):
    """The board of a text."""
    rows = text.split("\n") if text else []
    board = []
    count = 0
    while count < len(rows) and put_row(board, rows[count]):
        count += 1
    place = fault(board)
    if place is not None:
        raise NoText(row_of(board, place))
    if count < len(rows):
        raise NoText(count)
    return board
