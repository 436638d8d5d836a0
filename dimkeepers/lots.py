"""Lots: rising lists of things, and the things that are barred by them.

What is barred by a lot is barred by each one that has all of it, too. So what can
be taken out of a lot belongs to no stuck one, and what is left is the greatest.
"""

from dimkeepers.boards import things


def is_lot(board, found):
    """Whether a list of texts is a lot of the board."""
    return found == [thing for thing in things(board) if thing in found]


def has_behind(row, lot, thing):
    """Whether a thing of the lot stands behind the thing in a row that has it."""
    if thing not in row:
        return False
    return any(other in lot for other in row[row.index(thing) + 1:])


def may_be_told(keeper, lot, thing):
    """Whether a keeper counts for a thing: it was told it, or may have been."""
    whole, row = keeper[2], keeper[3]
    if thing in row:
        return True
    # What was told behind a keeper's eldest is remembered still. So a keeper can
    # have forgotten what comes behind the lot only if its eldest is not in the lot.
    return not whole and row[0] not in lot


def barred(board, lot, thing):
    """Whether the lot bars the thing from coming behind all of it."""
    for least, keepers in board:
        if any(has_behind(keeper[3], lot, thing) for keeper in keepers):
            return True
        if len([keeper for keeper in keepers if may_be_told(keeper, lot, thing)]) < least:
            return True
    return False


def rounds(board, lot):
    """What can be taken out of a lot, round by round, and the lot that is left."""
    told = []
    left = list(lot)
    free = [thing for thing in left if not barred(board, left, thing)]
    while free:
        told.append(free)
        left = [thing for thing in left if thing not in free]
        free = [thing for thing in left if not barred(board, left, thing)]
    return (told, left)


def stuck(board):
    """The greatest stuck lot of a board, or the empty list."""
    return rounds(board, things(board))[1]


def stuck_shows(board, lot):
    """Whether a list of texts is a stuck lot of the board."""
    if not lot or not is_lot(board, lot):
        return False
    return all(barred(board, lot, thing) for thing in lot)
