"""What the tests share: boards to ask, and calls that watch what is handed in."""

import collections
import copy
import functools
import itertools


def example():
    """The example of point 6."""
    return [(2, [("a", 1, False, ["x"]), ("b", 1, False, ["y"]), ("c", 1, False, ["y"])])]


def three_teams():
    """A right board with an empty team, an empty row, and a thing called like a keeper."""
    return [
        (1, [("dan", 2, False, ["tea", "bob"]), ("ann", 3, True, ["bob"])]),
        (0, []),
        (2, [("cid", 1, False, ["milk"]), ("bob", 12, True, []), ("eve", 2, True, ["tea", "milk"])]),
    ]


def one_team(least, *keepers):
    return [(least, list(keepers))]


def circle():
    """x and y stand ahead of each other, z ahead of x, w behind y."""
    return [(0, [("a", 3, True, ["z", "x", "y"]), ("b", 3, True, ["y", "x"]), ("c", 2, False, ["y", "w"])])]


def two_circles():
    return [
        (0, [("a", 2, True, ["p", "q"]), ("b", 2, True, ["q", "p"])]),
        (0, [("c", 2, True, ["x", "y"]), ("d", 2, True, ["y", "x"])]),
        (0, [("e", 1, True, ["free"])]),
    ]


def ladder():
    """Each thing stands right ahead of the next one in some row, b beside a."""
    return [(1, [("k", 2, False, ["e", "d"]), ("l", 2, False, ["d", "a"]), ("m", 2, False, ["d", "b"]),
                 ("n", 2, False, ["a", "c"]), ("o", 2, False, ["b", "c"])])]


def every_order(function, **given):
    """What the call answers, the same whatever order its arguments are named in.

    What is handed in has to stay as it was.
    """
    before = copy.deepcopy(given)
    places = list(given.values())
    answers = [function(*places)]
    for order in itertools.permutations(given):
        answers.append(function(**{name: given[name] for name in order}))
    assert all(answer == answers[0] for answer in answers), (answers, given)
    assert repr(given) == repr(before), (before, given)
    return answers[0]


def lots_of(found):
    """All lots of a rising list of things, the empty one too."""
    return [list(lot) for many in range(len(found) + 1) for lot in itertools.combinations(found, many)]


def rows_of(found, room):
    """All rows of a room that have only these things."""
    return [list(row) for many in range(room + 1) for row in itertools.permutations(found, many)]


def small_boards(found, rooms, split):
    """All right boards of keepers of these rooms, the first `split` of them in a team of their own."""
    keepers = []
    for name, room in zip("abcdefgh", rooms):
        keepers.append([(name, room, whole, row) for row in rows_of(found, room)
                        for whole in (True, False) if whole or len(row) == room])
    for chosen in itertools.product(*keepers):
        first, second = list(chosen[:split]), list(chosen[split:])
        for least in range(len(first) + 1):
            for other in range(len(second) + 1):
                yield [(least, first), (other, second)]


@functools.cache
def histories(found, rooms, split):
    """All histories of some of these things, listed by what they leave: (leasts, rows, who forgot).

    It follows point 10 word by word and knows nothing of lots.
    """
    sides = [range(split), range(split, len(rooms))]
    left = collections.defaultdict(list)
    leasts = itertools.product(range(len(sides[0]) + 1), range(len(sides[1]) + 1))
    tellable = [set(some) for many in range(len(rooms) + 1)
                for some in itertools.combinations(range(len(rooms)), many)]
    for least in leasts:
        allowed = [some for some in tellable
                   if all(len(some & set(side)) >= few for side, few in zip(sides, least))]
        for row in rows_of(found, len(found)):
            for told in itertools.product(allowed, repeat=len(row)):
                heard = [[thing for thing, some in zip(row, told) if k in some]
                         for k in range(len(rooms))]
                kept = tuple(tuple(had[-room:]) for had, room in zip(heard, rooms))
                forgot = tuple(len(had) > room for had, room in zip(heard, rooms))
                left[least, kept, forgot].append(
                    [(thing, ["abcdefgh"[k] for k in sorted(some)]) for thing, some in zip(row, told)])
    return left


def histories_of(board, left):
    """Those of the listed histories that leave the board: whole ones forgot nothing."""
    keepers = [keeper for _, team in board for keeper in team]
    leasts = tuple(least for least, _ in board)
    rows = tuple(tuple(row) for _, _, _, row in keepers)
    forgots = itertools.product(*[(False,) if whole else (False, True) for _, _, whole, _ in keepers])
    return [history for forgot in forgots for history in left.get((leasts, rows, forgot), [])]


def behind_history(teams, history):
    """The board of teams (least, [(name, room)]) behind a history; whole is who forgot nothing."""
    board = []
    for least, keepers in teams:
        heard = [(name, room, [thing for thing, told in history if name in told]) for name, room in keepers]
        board.append((least, [(name, room, len(had) <= room, had[-room:]) for name, room, had in heard]))
    return board


def small_worlds():
    """Some sets of small boards, each with all histories of their things."""
    for found, rooms, split in (("xyz", (2, 1), 2), ("xyz", (2, 2), 1), ("wxyz", (2, 1), 1), ("xyz", (1, 1, 1), 2),
                                ("xyz", (1, 1, 1), 3), ("xyz", (2, 1, 1), 2)):
        yield list(small_boards(found, rooms, split)), histories(found, rooms, split)


def bars_by_word(board, lot, thing, uncounted=None):
    """Whether a lot bars a thing, as point 6 tells it; of a keeper who is not counted point 14."""
    for least, keepers in board:
        counted = 0
        for name, _, whole, row in keepers:
            if thing in row:
                counted += 1
                if any(other in lot and row.index(other) > row.index(thing) for other in row):
                    return True
            elif not whole and name != uncounted and row[0] not in lot:
                counted += 1
        if counted < least:
            return True
    return False


def orders_by_rule(board):
    """All orders that a board can have, as point 9 tells it."""
    found = sorted({thing for _, keepers in board for keeper in keepers for thing in keeper[3]})
    return [list(order) for order in itertools.permutations(found)
            if not any(bars_by_word(board, order[:k + 1], thing) for k, thing in enumerate(order))]


def boards_with_orders():
    """Small boards that some history leaves, each with all its orders."""
    for found, rooms, split in (("xyz", (2, 2), 2), ("xyz", (2, 2), 1), ("xyz", (2, 1), 2), ("xyz", (1, 1, 1), 3)):
        for board in small_boards(found, rooms, split):
            orders = orders_by_rule(board)
            if orders:
                yield board, orders
    # Of these there are more than are needed: one of so many.
    for board in itertools.islice(small_boards("wxyz", (2, 1, 1), 3), 0, None, 17):
        orders = orders_by_rule(board)
        if orders:
            yield board, orders
