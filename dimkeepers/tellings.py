"""What is known behind a telling: what goes lost by it, what is won, and the kindest one."""

from dimkeepers.boards import is_name, keeper_called, keeping, things
from dimkeepers.errors import NoTelling, Twice
from dimkeepers.known import pairs
from dimkeepers.orders import is_telling, need_order
from dimkeepers.parts import lists_of_names, need_six


def need_new(board, thing):
    """Refuse a thing that is remembered, or is no name of one."""
    if not is_name(thing) or thing in things(board):
        raise Twice(f"{thing} is there already, or is no name")


def told_so(board, thing, told):
    """The board behind a telling that needs no refusal."""
    return [(least, [keeping(name, room, whole, row + [thing] if name in told else row)
                     for name, room, whole, row in keepers])
            for least, keepers in board]


def behind(board, thing, names):
    """The board behind the telling of a new thing to some keepers."""
    need_new(board, thing)
    for name in names:
        keeper_called(board, name)
    if not is_telling(board, names):
        raise NoTelling(f"{thing} cannot be told to these keepers")
    return told_so(board, thing, names)


def lost_of(known, left, still):
    """The known pairs of things that a board remembers still, but that are not among its own pairs."""
    found = {thing: True for thing in things(left)}
    kept = {pair: True for pair in still}
    return [pair for pair in known if pair[0] in found and pair[1] in found and pair not in kept]


def won_of(thing, still):
    """The pairs that have a thing."""
    return [pair for pair in still if thing in pair]


def lost(board, thing, names):
    """The pairs that are known no more behind a telling, though both things are remembered."""
    left = behind(board, thing, names)
    return lost_of(pairs(board), left, pairs(left))


def won(board, thing, names):
    """The pairs of the new thing that are known behind a telling."""
    left = behind(board, thing, names)
    need_order(board)
    return won_of(thing, pairs(left))


def kindest(board, thing):
    """The names to tell a thing to, so that least is lost, then most won, then fewest are told."""
    need_six(board)
    need_order(board)
    need_new(board, thing)
    known = pairs(board)
    best = []
    told = []
    for some in lists_of_names(board):
        if is_telling(board, some):
            left = told_so(board, thing, some)
            still = pairs(left)
            worth = [len(lost_of(known, left, still)), -len(won_of(thing, still))]
            if not best or worth < best:
                best = worth
                told = some
    return told
