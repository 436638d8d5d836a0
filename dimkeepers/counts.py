"""How many orders a board can have, and the order of a number.

An order takes the rows away from their ends, its newest thing first. So what it has
not yet taken is told by how many things are left of each row, and the orders are the
ways from all rows to nothing, thing by thing. Layers list, behind each number of
things taken, all that can be left, each with its steps (thing, what is left then).
"""

from dimkeepers.bars import bars_of, is_barred
from dimkeepers.boards import keepers_of, things
from dimkeepers.errors import NoNumber, TooMany
from dimkeepers.known import need_things
from dimkeepers.orders import need_order

MOST_LEFT = 20000


def rows_of(board):
    """The rows of all keepers, in the order of their places."""
    return [keeper[3] for keeper in keepers_of(board)]


def all_left(board):
    """How many things are left of each row before any is taken."""
    return tuple([len(row) for row in rows_of(board)])


def need_few(board):
    """Refuse a board of which too much can be left, then one without an order."""
    product = 1
    for row in rows_of(board):
        product = product * (len(row) + 1)
    if product > MOST_LEFT:
        raise TooMany(product)
    need_order(board)


def things_left(rows, left):
    """The things of the rows of which so many are left."""
    return {thing: True for row, few in zip(rows, left) for thing in row[:few]}


def steps_from(rows, bars, left):
    """The things that can be taken of what is left, rising, each with what is left then."""
    lot = things_left(rows, left)
    ends = sorted({row[few - 1] for row, few in zip(rows, left) if few > 0})
    steps = []
    for thing in ends:
        if not is_barred(bars[thing], lot):
            rest = [few - 1 if thing in row else few for row, few in zip(rows, left)]
            steps.append((thing, tuple(rest)))
    return steps


def layers_of(board):
    """All that can be left of the rows, with the steps from there, in layers."""
    rows = rows_of(board)
    bars = bars_of(board, things(board))
    layers = []
    lefts = [all_left(board)]
    while lefts:
        layer = {left: steps_from(rows, bars, left) for left in lefts}
        layers.append(layer)
        following = {rest: True for steps in layer.values() for _, rest in steps}
        lefts = list(following)
    return layers


def ways_on(layers):
    """In how many ways all that is left can be taken."""
    ways = {}
    for layer in layers[::-1]:
        for left, steps in layer.items():
            # Where there is an order, only from nothing there is no step.
            ways[left] = sum([ways[rest] for _, rest in steps]) if steps else 1
    return ways


def ways_there(layers):
    """In how many ways just so much is left."""
    ways = {full: 1 for full in layers[0]}
    for layer in layers:
        for left, steps in layer.items():
            for _, rest in steps:
                ways[rest] = ways.get(rest, 0) + ways[left]
    return ways


def takings(layers, thing):
    """The steps that take a thing, layer by layer: (what was left, how many orders go so)."""
    there = ways_there(layers)
    on = ways_on(layers)
    return [[(left, there[left] * on[rest]) for left, steps in layer.items()
             for taken, rest in steps if taken == thing]
            for layer in layers[:-1]]


def many(board):
    """How many orders the board can have."""
    need_few(board)
    return ways_on(layers_of(board))[all_left(board)]


def many_ahead(board, one, other):
    """How many of the orders that the board can have have one thing ahead of another one."""
    need_few(board)
    need_things(board, [one, other])
    if one == other:
        return 0
    rows = rows_of(board)
    return sum([ways for layer in takings(layers_of(board), other) for left, ways in layer
                if one in things_left(rows, left)])


def places(board, thing):
    """At how many orders the thing stands at each place, the eldest place first."""
    need_few(board)
    need_things(board, [thing])
    told = [sum([ways for _, ways in layer]) for layer in takings(layers_of(board), thing)]
    return told[::-1]


def nth(board, number):
    """The order of a number, where orders rise as lists read from the newest on."""
    need_few(board)
    layers = layers_of(board)
    ways = ways_on(layers)
    left = all_left(board)
    if not 0 <= number < ways[left]:
        raise NoNumber(f"no order has the number {number}")
    told = []
    skipped = 0
    for layer in layers[:-1]:
        steps = layer[left]
        for thing, rest in steps:
            if number < skipped + ways[rest]:
                told.append(thing)
                left = rest
                break
            skipped += ways[rest]
    return told[::-1]
