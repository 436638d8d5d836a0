"""All lists of a board's names, where there are not too many of them."""

from itertools import combinations

from dimkeepers.boards import names
from dimkeepers.errors import TooMany

MOST_NAMES = 6


def need_six(board):
    """Refuse a board that has more lists of names than can be looked through."""
    count = len(names(board))
    if count > MOST_NAMES:
        raise TooMany(1 << count)


def lists_of_names(board):
    """All rising lists of the board's names, by how many names, then rising."""
    found = names(board)
    return [list(some) for count in range(len(found) + 1) for some in combinations(found, count)]
