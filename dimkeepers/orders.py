"""Orders that a board can have, and the histories that leave it."""

from dimkeepers.bars import bar_of, bars_of, free_of, hearers, is_barred
from dimkeepers.boards import is_name, keepers_of, names, things
from dimkeepers.errors import NoOrder
from dimkeepers.lots import stuck


def need_order(board):
    """Refuse a board that can have no order."""
    lot = stuck(board)
    if lot:
        raise NoOrder(lot)


def can_have(board, order):
    """Whether the board can have this order, of any list of texts."""
    if sorted(order) != things(board):
        return False
    lot = {}
    for thing in order:
        lot[thing] = True
        if is_barred(bar_of(board, thing), lot):
            return False
    return True


def newest_first(bars, lot):
    """A lot from the newest thing on, always the first of it that can stand there."""
    told = []
    left = list(lot)
    while left:
        thing = free_of(bars, left, [])[0]
        told.append(thing)
        left.remove(thing)
    return told


def order_of(board):
    """The order with the least names that can stand there, from the newest on."""
    need_order(board)
    found = things(board)
    return newest_first(bars_of(board, found), found)[::-1]


def history_of(board, order):
    """The history of an order in which each thing is told to as many as can be."""
    if not can_have(board, order):
        raise NoOrder(stuck(board))
    history = []
    lot = {}
    for thing in order:
        lot[thing] = True
        told = [name for _, some in hearers(bar_of(board, thing), lot) for name in some]
        history.append((thing, sorted(told)))
    return history


def is_telling(board, told):
    """Whether these names rise, are those of keepers, and are enough for each team."""
    if told != [name for name in names(board) if name in told]:
        return False
    return all(len([keeper for keeper in keepers if keeper[0] in told]) >= least
               for least, keepers in board)


def is_history(board, history):
    """Whether a list of tuples of a text and a list of texts is a history."""
    told = [thing for thing, _ in history]
    if len(set(told)) < len(told) or not all(is_name(thing) for thing in told):
        return False
    return all(is_telling(board, some) for _, some in history)


def leaves(board, history):
    """Whether this is a history, and each keeper has its row behind it."""
    if not is_history(board, history):
        return False
    for name, room, whole, row in keepers_of(board):
        heard = [thing for thing, told in history if name in told]
        if row != (heard if whole else heard[-room:]):
            return False
    return True
