"""Whether a thing was told to a keeper, and what shows it."""

from dimkeepers.bars import bar_of, bars_of, free_of, left_of
from dimkeepers.boards import keeper_called, things
from dimkeepers.known import against, lot_for, lot_shows, need_things
from dimkeepers.lots import is_lot
from dimkeepers.orders import history_of, newest_first


def asked_keeper(board, thing, name):
    """The keeper of this name, refused where nothing can be told of it and the thing."""
    need_things(board, [thing])
    return keeper_called(board, name)


def bars_without(board, thing, name):
    """The bars of all things, where a keeper who does not remember the thing does not count for it."""
    bars = bars_of(board, things(board))
    bars[thing] = bar_of(board, thing, name)
    return bars


def lot_in(found):
    """The lot of a paper, the empty list where it has none."""
    if len(found) == 2 and found[0] == "lot" and isinstance(found[1], list):
        return found[1]
    return []


def yes_paper(board, thing, keeper):
    """What shows that the thing was told to the keeper, or None."""
    name, _, _, row = keeper
    if thing in row:
        return ("row",)
    bars = bars_without(board, thing, name)
    lot = left_of(bars, list(bars), [])
    return ("lot", lot) if lot else None


def no_paper(board, thing, keeper):
    """What shows that the thing, which the keeper does not remember, was not told to it, or None."""
    _, _, whole, row = keeper
    if whole:
        return ("whole",)
    lot = lot_for(board, row[0], thing)
    return None if lot is None else ("lot", lot)


def answer(board, thing, name):
    """The word that tells whether a thing was told to a keeper, and its paper."""
    keeper = asked_keeper(board, thing, name)
    found = yes_paper(board, thing, keeper)
    if found is not None:
        return ("yes", found)
    found = no_paper(board, thing, keeper)
    return ("open" if found is None else "no", found)


def told_to(board, thing, name):
    """Whether a thing was told to a keeper: yes, no or open."""
    return answer(board, thing, name)[0]


def paper(board, thing, name):
    """The first paper that shows what told_to tells, None of open."""
    return answer(board, thing, name)[1]


def yes_shows(board, thing, keeper, found):
    """Whether a tuple shows that the thing was told to the keeper."""
    name, _, _, row = keeper
    if thing in row:
        return found == ("row",)
    lot = lot_in(found)
    if not lot or not is_lot(board, lot):
        return False
    return not free_of(bars_without(board, thing, name), lot, [])


def no_shows(board, thing, keeper, found):
    """Whether a tuple shows that the thing was not told to the keeper."""
    _, _, whole, row = keeper
    if thing in row:
        return False
    if whole:
        return found == ("whole",)
    return lot_shows(board, row[0], thing, lot_in(found))


def paper_shows(board, thing, name, word, found):
    """Whether a tuple is a paper that shows this word of the thing and the keeper."""
    keeper = asked_keeper(board, thing, name)
    if word == "yes":
        return yes_shows(board, thing, keeper, found)
    if word == "no":
        return no_shows(board, thing, keeper, found)
    return False


def two_histories(board, thing, name):
    """Two histories that leave the board: the thing told to the keeper, and not; or None."""
    if told_to(board, thing, name) != "open":
        return None
    row = keeper_called(board, name)[3]
    told = history_of(board, against(board, row[0], thing))
    bars = bars_without(board, thing, name)
    order = newest_first(bars, list(bars))[::-1]
    # Whoever can have been told the thing in this order need not have been.
    untold = [(other, [hearer for hearer in some if (other, hearer) != (thing, name)])
              for other, some in history_of(board, order)]
    return (told, untold)
