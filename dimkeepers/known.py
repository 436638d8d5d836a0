"""What is known of which of two things came ahead of the other."""

from dimkeepers.bars import bars_of, free_of, left_of
from dimkeepers.boards import things
from dimkeepers.errors import NoThing
from dimkeepers.lots import is_lot
from dimkeepers.orders import need_order, newest_first, order_of


def need_things(board, asked):
    """Refuse a board without an order, then things that nobody remembers."""
    need_order(board)
    found = things(board)
    for thing in asked:
        if thing not in found:
            raise NoThing(f"nobody remembers {thing}")


def bars_down(board):
    """The bars of all things, in an order that the board can have, from the newest thing on."""
    # A thing is barred most often by one behind it. So, looked through from the newest
    # on, hardly any lot has to be looked through again.
    return bars_of(board, order_of(board)[::-1])


def all_ahead(bars, other):
    """The things that are known to be ahead of another one, in the order of the bars."""
    return left_of(bars, [thing for thing in bars if thing != other], [other])


def lot_for(board, one, other):
    """The greatest lot that shows that one thing is ahead of another one, or None."""
    need_things(board, [one, other])
    lot = all_ahead(bars_of(board, things(board)), other)
    return lot if one in lot else None


def ahead(board, one, other):
    """Whether one thing is known to be ahead of another one."""
    return lot_for(board, one, other) is not None


def lot_shows(board, one, other, lot):
    """Whether a list of texts is a lot that shows one thing to be ahead of another one."""
    need_things(board, [one, other])
    if one not in lot or other in lot or not is_lot(board, lot):
        return False
    return not free_of(bars_of(board, lot), lot, [other])


def against(board, one, other):
    """An order with the other thing ahead of the one, or None where there is none."""
    if ahead(board, one, other) or one == other:
        return None
    left = things(board)
    bars = bars_of(board, left)
    told = []
    while one in left:
        free = [thing for thing in free_of(bars, left, []) if thing != other]
        thing = one if one in free else free[0]
        told.append(thing)
        left.remove(thing)
    told.extend(newest_first(bars, left))
    return told[::-1]


def pairs(board):
    """All (one, other) of which the one is known to be ahead, rising."""
    bars = bars_down(board)
    return sorted([(one, other) for other in bars for one in all_ahead(bars, other)])


def newest(board):
    """The things that may be the newest, rising."""
    need_order(board)
    found = things(board)
    return free_of(bars_of(board, found), found, [])


def eldest_ones(board):
    """The things that may be the eldest, rising."""
    bars = bars_down(board)
    return sorted([thing for thing in bars if not all_ahead(bars, thing)])
