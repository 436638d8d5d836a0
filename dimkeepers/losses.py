"""What is known behind a loss of keepers: which losses free two things, and which keepers show them.

Whoever is lost, no more is known behind it: what is barred by a lot behind the loss
is barred by it ahead of it, too.
"""

from dimkeepers.bars import bars_of
from dimkeepers.boards import keeper_called, things
from dimkeepers.known import all_ahead, need_things
from dimkeepers.parts import lists_of_names, need_six


def without(board, names):
    """The board behind the loss of some keepers."""
    for name in names:
        keeper_called(board, name)
    told = []
    for least, keepers in board:
        left = [(name, room, whole, list(row)) for name, room, whole, row in keepers if name not in names]
        told.append((max(0, least - (len(keepers) - len(left))), left))
    return told


def need_asked(board, one, other):
    """Refuse too many keepers, then a board without an order, then things that nobody remembers."""
    need_six(board)
    need_things(board, [one, other])


def are_there(board, one, other):
    """Whether both things are remembered."""
    found = things(board)
    return one in found and other in found


def is_known(board, one, other):
    """Whether one thing is known to be ahead of the other one, both of them remembered."""
    return one in all_ahead(bars_of(board, things(board)), other)


def has_all(some, part):
    """Whether a list has all names of another one."""
    return all(name in some for name in part)


def least_ones(lists):
    """Of lists that come by how many names, those that have no other one of them within."""
    told = []
    for some in lists:
        if not any(has_all(some, part) for part in told):
            told.append(some)
    return told


def freeing(board, one, other):
    """The least lists of names behind whose loss it is not known that the one is ahead."""
    need_asked(board, one, other)
    found = []
    for some in lists_of_names(board):
        left = without(board, some)
        if are_there(left, one, other) and not is_known(left, one, other):
            found.append(some)
    return least_ones(found)


def showing(board, one, other):
    """The least lists of names who know by themselves that the one is ahead."""
    need_asked(board, one, other)
    lists = lists_of_names(board)
    found = []
    for some in lists:
        left = without(board, [name for name in lists[-1] if name not in some])
        if are_there(left, one, other) and is_known(left, one, other):
            found.append(some)
    return least_ones(found)


def bears(board, one, other):
    """The greatest number of keepers whose loss never frees two things, or None."""
    lists = freeing(board, one, other)
    if not lists or not lists[0]:
        return None
    return len(lists[0]) - 1
