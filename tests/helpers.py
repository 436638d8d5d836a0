"""What the tests share: boards to ask, and calls that watch what is handed in."""

import copy
import itertools


def example():
    """The example of point 6."""
    return [(2, [("a", 1, False, ["x"]), ("b", 1, False, ["y"]), ("c", 1, False, ["y"])])]


def three_teams():
    """A right board with an empty team, an empty row, and a thing called like a keeper."""
    return [
        (1, [("dan", 2, False, ["tea", "bob"]), ("ann", 3, True, ["bob"])]),
        (0, []),
        (2, [("cid", 1, False, ["milk"]), ("bob", 12, True, []), ("eve", 2, True, ["tea", "milk"])]),
    ]


def every_order(function, **given):
    """What the call answers, the same whatever order its arguments are named in.

    What is handed in has to stay as it was.
    """
    before = copy.deepcopy(given)
    places = list(given.values())
    answers = [function(*places)]
    for order in itertools.permutations(given):
        answers.append(function(**{name: given[name] for name in order}))
    assert all(answer == answers[0] for answer in answers), (answers, given)
    assert repr(given) == repr(before), (before, given)
    return answers[0]


def lots_of(found):
    """All lots of a rising list of things, the empty one too."""
    return [list(lot) for many in range(len(found) + 1) for lot in itertools.combinations(found, many)]


def rows_of(found, room):
    """All rows of a room that have only these things."""
    return [list(row) for many in range(room + 1) for row in itertools.permutations(found, many)]


def small_boards(found, rooms, split):
    """All right boards of keepers of these rooms, the first `split` of them in a team of their own."""
    keepers = []
    for name, room in zip("abcdefgh", rooms):
        keepers.append([(name, room, whole, row) for row in rows_of(found, room)
                        for whole in (True, False) if whole or len(row) == room])
    for chosen in itertools.product(*keepers):
        first, second = list(chosen[:split]), list(chosen[split:])
        for least in range(len(first) + 1):
            for other in range(len(second) + 1):
                yield [(least, first), (other, second)]


def what_histories_leave(found, rooms, split):
    """All (leasts, rows, who forgot) that tellings of some of these things leave behind.

    It follows point 10 word by word and knows nothing of lots.
    """
    sides = [range(split), range(split, len(rooms))]
    left = set()
    leasts = itertools.product(range(len(sides[0]) + 1), range(len(sides[1]) + 1))
    tellable = [set(some) for many in range(len(rooms) + 1)
                for some in itertools.combinations(range(len(rooms)), many)]
    for least in leasts:
        allowed = [some for some in tellable
                   if all(len(some & set(side)) >= few for side, few in zip(sides, least))]
        for row in rows_of(found, len(found)):
            for told in itertools.product(allowed, repeat=len(row)):
                heard = [[thing for thing, some in zip(row, told) if k in some]
                         for k in range(len(rooms))]
                kept = tuple(tuple(had[-room:]) for had, room in zip(heard, rooms))
                forgot = tuple(len(had) > room for had, room in zip(heard, rooms))
                left.add((least, kept, forgot))
    return left
