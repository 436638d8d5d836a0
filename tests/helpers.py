"""What the tests share: boards to ask, and calls that watch what is handed in."""

import collections
import copy
import functools
import itertools
import random

KEEPERS = ["ann", "bob", "cid", "dan", "eve", "fay", "gus", "hal"]


def example():
    """The example of point 6."""
    return [(2, [("a", 1, False, ["x"]), ("b", 1, False, ["y"]), ("c", 1, False, ["y"])])]


def three_teams():
    """A right board with an empty team, an empty row, and a thing called like a keeper."""
    return [
        (1, [("dan", 2, False, ["tea", "bob"]), ("ann", 3, True, ["bob"])]),
        (0, []),
        (2, [("cid", 1, False, ["milk"]), ("bob", 12, True, []), ("eve", 2, True, ["tea", "milk"])]),
    ]


def one_team(least, *keepers):
    return [(least, list(keepers))]


def circle():
    """x and y stand ahead of each other, z ahead of x, w behind y."""
    return [(0, [("a", 3, True, ["z", "x", "y"]), ("b", 3, True, ["y", "x"]), ("c", 2, False, ["y", "w"])])]


def two_circles():
    return [
        (0, [("a", 2, True, ["p", "q"]), ("b", 2, True, ["q", "p"])]),
        (0, [("c", 2, True, ["x", "y"]), ("d", 2, True, ["y", "x"])]),
        (0, [("e", 1, True, ["free"])]),
    ]


def ladder():
    """Each thing stands right ahead of the next one in some row, b beside a."""
    return [(1, [("k", 2, False, ["e", "d"]), ("l", 2, False, ["d", "a"]), ("m", 2, False, ["d", "b"]),
                 ("n", 2, False, ["a", "c"]), ("o", 2, False, ["b", "c"])])]


def every_order(function, **given):
    """What the call answers, the same whatever order its arguments are named in.

    What is handed in has to stay as it was.
    """
    before = copy.deepcopy(given)
    places = list(given.values())
    answers = [function(*places)]
    for order in itertools.permutations(given):
        answers.append(function(**{name: given[name] for name in order}))
    assert all(answer == answers[0] for answer in answers), (answers, given)
    assert repr(given) == repr(before), (before, given)
    return answers[0]


def lots_of(found):
    """All lots of a rising list of things, the empty one too."""
    return [list(lot) for many in range(len(found) + 1) for lot in itertools.combinations(found, many)]


def rows_of(found, room):
    """All rows of a room that have only these things."""
    return [list(row) for many in range(room + 1) for row in itertools.permutations(found, many)]


def small_boards(found, rooms, split):
    """All right boards of keepers of these rooms, the first `split` of them in a team of their own."""
    keepers = []
    for name, room in zip("abcdefgh", rooms):
        keepers.append([(name, room, whole, row) for row in rows_of(found, room)
                        for whole in (True, False) if whole or len(row) == room])
    for chosen in itertools.product(*keepers):
        first, second = list(chosen[:split]), list(chosen[split:])
        for least in range(len(first) + 1):
            for other in range(len(second) + 1):
                yield [(least, first), (other, second)]


@functools.cache
def histories(found, rooms, split):
    """All histories of some of these things, listed by what they leave: (leasts, rows, who forgot).

    It follows point 10 word by word and knows nothing of lots.
    """
    sides = [range(split), range(split, len(rooms))]
    left = collections.defaultdict(list)
    leasts = itertools.product(range(len(sides[0]) + 1), range(len(sides[1]) + 1))
    tellable = [set(some) for many in range(len(rooms) + 1)
                for some in itertools.combinations(range(len(rooms)), many)]
    for least in leasts:
        allowed = [some for some in tellable
                   if all(len(some & set(side)) >= few for side, few in zip(sides, least))]
        for row in rows_of(found, len(found)):
            for told in itertools.product(allowed, repeat=len(row)):
                heard = [[thing for thing, some in zip(row, told) if k in some]
                         for k in range(len(rooms))]
                kept = tuple(tuple(had[-room:]) for had, room in zip(heard, rooms))
                forgot = tuple(len(had) > room for had, room in zip(heard, rooms))
                left[least, kept, forgot].append(
                    [(thing, ["abcdefgh"[k] for k in sorted(some)]) for thing, some in zip(row, told)])
    return left


def histories_of(board, left):
    """Those of the listed histories that leave the board: whole ones forgot nothing."""
    keepers = [keeper for _, team in board for keeper in team]
    leasts = tuple(least for least, _ in board)
    rows = tuple(tuple(row) for _, _, _, row in keepers)
    forgots = itertools.product(*[(False,) if whole else (False, True) for _, _, whole, _ in keepers])
    return [history for forgot in forgots for history in left.get((leasts, rows, forgot), [])]


def behind_history(teams, history):
    """The board of teams (least, [(name, room)]) behind a history; whole is who forgot nothing."""
    board = []
    for least, keepers in teams:
        heard = [(name, room, [thing for thing, told in history if name in told]) for name, room in keepers]
        board.append((least, [(name, room, len(had) <= room, had[-room:]) for name, room, had in heard]))
    return board


def drawn_teams(chance, sizes, most):
    """Teams of so many keepers, of drawn leasts and rooms."""
    left = iter(KEEPERS)
    return [(chance.randint(0, size), [(next(left), chance.randint(1, most)) for _ in range(size)]) for size in sizes]


def drawn(chance, teams, found, rarely):
    """A history of these things, each told to as many as must be and rarely to more, and the board behind it."""
    history = []
    for thing in found:
        told = {name for _, keepers in teams for name, _ in keepers if chance.random() < rarely}
        for least, keepers in teams:
            told.update(chance.sample([name for name, _ in keepers], least))
        history.append((thing, sorted(told)))
    return history, behind_history(teams, history)


def drawn_boards(number, sizes, most, tellings):
    """So many boards that drawn histories leave, of teams of these sizes."""
    for seed in range(number):
        chance = random.Random(seed)
        teams = drawn_teams(chance, sizes, most)
        yield drawn(chance, teams, "abcdefghij"[:tellings], chance.choice([0.0, 0.2, 0.4, 0.7]))[1]


def small_worlds():
    """Some sets of small boards, each with all histories of their things."""
    for found, rooms, split in (("xyz", (2, 1), 2), ("xyz", (2, 2), 1), ("wxyz", (2, 1), 1), ("xyz", (1, 1, 1), 2),
                                ("xyz", (1, 1, 1), 3), ("xyz", (2, 1, 1), 2)):
        yield list(small_boards(found, rooms, split)), histories(found, rooms, split)


def bars_by_word(board, lot, thing, uncounted=None):
    """Whether a lot bars a thing, as point 6 tells it; of a keeper who is not counted point 14."""
    for least, keepers in board:
        counted = 0
        for name, _, whole, row in keepers:
            if thing in row:
                counted += 1
                if any(other in lot and row.index(other) > row.index(thing) for other in row):
                    return True
            elif not whole and name != uncounted and row[0] not in lot:
                counted += 1
        if counted < least:
            return True
    return False


def orders_by_rule(board):
    """All orders that a board can have, as point 9 tells it."""
    found = sorted({thing for _, keepers in board for keeper in keepers for thing in keeper[3]})
    return [list(order) for order in itertools.permutations(found)
            if not any(bars_by_word(board, order[:k + 1], thing) for k, thing in enumerate(order))]


def rare_boards(found, rooms, split, every):
    """One of so many small boards, of those that can have an order, each with all its orders."""
    for board in itertools.islice(small_boards(found, rooms, split), 0, None, every):
        orders = orders_by_rule(board)
        if orders:
            yield board, orders


def boards_with_orders():
    """Small boards that some history leaves, each with all its orders."""
    for found, rooms, split in (("xyz", (2, 2), 2), ("xyz", (2, 2), 1), ("xyz", (2, 1), 2), ("xyz", (1, 1, 1), 3)):
        yield from rare_boards(found, rooms, split, 1)
    # Of these there are more than are needed.
    yield from rare_boards("wxyz", (2, 1, 1), 3, 17)


def lists_in(told):
    """All lists within what is told, however deep, each as often as it is there."""
    inner = [some for part in told for some in lists_in(part)] if isinstance(told, (list, tuple)) else []
    return [told, *inner] if isinstance(told, list) else inner


def spoil(told):
    """Change all lists within what is told."""
    for some in lists_in(told):
        some.append("more")
        some.reverse()
        del some[1:]


def own_lists(ask, *handed):
    """What is asked, once its lists are seen to be new ones, of the asker's own, and no two of them one."""
    told = ask()
    again = copy.deepcopy(told)
    before = repr(handed)
    assert not {id(some) for some in lists_in(told)} & {id(some) for given in handed for some in lists_in(given)}, told
    assert len({id(some) for some in lists_in(told)}) == len(lists_in(told)), told
    spoil(told)
    assert repr(handed) == before, handed
    assert ask() == again, again
    return again


def refusal(error, function, **given):
    """The error that every way to hand in the arguments is refused with; nothing of them is changed."""
    before = copy.deepcopy(given)
    calls = [lambda: function(*given.values())]
    for order in itertools.permutations(given):
        calls.append(lambda order=order: function(**{name: given[name] for name in order}))
    caught = []
    for call in calls:
        try:
            call()
        except error as refused:
            caught.append(refused)
    assert len(caught) == len(calls), (function.__name__, error.__name__, given)
    assert all(refused.__class__ is error for refused in caught), (caught, given)
    assert repr(given) == repr(before), (before, given)
    fields = [getattr(refused, name) for refused in caught for name in ("lot", "many", "row") if hasattr(refused, name)]
    assert all(field == fields[0] for field in fields), fields
    assert len({id(some) for some in lists_in(fields)}) == len(lists_in(fields)), fields
    return caught[0]


def known_by(orders, one, other):
    """Whether one thing is ahead of another one in all of the orders."""
    return one != other and all(order.index(one) < order.index(other) for order in orders)


def known_of(board):
    """All known pairs, by all orders that the board can have."""
    orders = orders_by_rule(board)
    found = sorted({thing for _, keepers in board for keeper in keepers for thing in keeper[3]})
    return {pair for pair in itertools.permutations(found, 2) if known_by(orders, *pair)}
