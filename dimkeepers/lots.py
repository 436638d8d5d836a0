"""Lots: rising lists of things, and the things that are barred by them."""

from dimkeepers.bars import bar_of, bars_of, free_of, is_barred, left_of
from dimkeepers.boards import things


def is_lot(board, found):
    """Whether a list of texts is a lot of the board."""
    return found == [thing for thing in things(board) if thing in found]


def barred(board, lot, thing):
    """Whether the lot bars the thing from coming behind all of it."""
    return is_barred(bar_of(board, thing), lot)


def rounds(board, lot):
    """What can be taken out of a lot, round by round, and the lot that is left."""
    bars = bars_of(board, lot)
    told = []
    left = list(lot)
    free = free_of(bars, left, [])
    while free:
        told.append(free)
        left = [thing for thing in left if thing not in free]
        free = free_of(bars, left, [])
    return (told, left)


def stuck(board):
    """The greatest stuck lot of a board, or the empty list."""
    found = things(board)
    return left_of(bars_of(board, found), found, [])


def stuck_shows(board, lot):
    """Whether a list of texts is a stuck lot of the board."""
    if not lot or not is_lot(board, lot):
        return False
    return not free_of(bars_of(board, lot), lot, [])
