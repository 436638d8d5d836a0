"""Two boards of one stream: what they know together, and whether they can be of one stream."""

from dimkeepers.boards import MOST_KEEPERS, MOST_TEAMS, names
from dimkeepers.errors import TooMany, Twice
from dimkeepers.known import pairs
from dimkeepers.losses import without
from dimkeepers.lots import stuck


def both(one, other):
    """The board of two boards' teams, the first one's ahead."""
    called = names(one)
    for name in names(other):
        if name in called:
            raise Twice(f"{name} is on both boards")
    board = [*one, *other]
    for count, most in ((len(board), MOST_TEAMS), (len(names(board)), MOST_KEEPERS)):
        if count > most:
            raise TooMany(count)
    # Nobody is lost, but all lists are new ones.
    return without(board, [])


def only_both(one, other):
    """The pairs that two boards know together, and neither of them by itself."""
    known = pairs(both(one, other))
    alone = {pair: True for pair in [*pairs(one), *pairs(other)]}
    return [pair for pair in known if pair not in alone]


def apart(one, other):
    """The greatest stuck lot of two boards together, the empty list where they can be of one stream."""
    return stuck(both(one, other))
