"""Bars: what keeps a thing from coming behind all of a lot.

A bar is (behind, teams): the things that stand behind a thing in some row, and of
each team (least, sure, unsure): how many were told the thing at least, the names of
those who remember it, and (name, eldest) of those who may have forgotten it. Bars are
made once, so that lots can be looked through without going through all rows again.

What is barred by a lot is barred by each one that has all of it, too. So what can
be taken out of a lot belongs to no lot within it whose things are all barred.
"""


def bar_of(board, thing, uncounted=""):
    """The bar of a thing; one keeper, by its name, may be left out of those who may have forgotten it."""
    behind = []
    teams = []
    for least, keepers in board:
        sure = []
        unsure = []
        for name, _, whole, row in keepers:
            if thing in row:
                sure.append(name)
                behind.extend(row[row.index(thing) + 1:])
            elif not whole and name != uncounted:
                unsure.append((name, row[0]))
        teams.append((least, sure, unsure))
    return (behind, teams)


def bars_of(board, lot):
    """The bar of each thing of a lot, in the lot's order."""
    return {thing: bar_of(board, thing) for thing in lot}


def hearers(bar, lot):
    """Of each team its least, and the names of those who can have been told the thing."""
    # What was told behind a keeper's eldest is remembered still. So a keeper can have
    # forgotten what comes behind the lot only if its eldest is not in the lot.
    return [(least, sure + [name for name, eldest in unsure if eldest not in lot])
            for least, sure, unsure in bar[1]]


def is_barred(bar, lot):
    """Whether a lot bars the thing that has this bar."""
    if any(other in lot for other in bar[0]):
        return True
    return any(len(told) < least for least, told in hearers(bar, lot))


def free_of(bars, lot, held):
    """The things of a lot that it and the things held beside it do not bar."""
    beside = {thing: True for thing in [*lot, *held]}
    return [thing for thing in lot if not is_barred(bars[thing], beside)]


def left_of(bars, lot, held):
    """What is left of a lot beside held things, once all that can be is taken out."""
    beside = {thing: True for thing in [*lot, *held]}
    left = lot
    count = len(left) + 1
    while len(left) < count:
        count = len(left)
        kept = []
        for thing in left:
            if is_barred(bars[thing], beside):
                kept.append(thing)
            else:
                del beside[thing]
        left = kept
    return left
