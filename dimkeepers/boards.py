"""Boards: teams of keepers, what each keeper remembers, and a board's fault.

A board is a list of teams (least, keepers), a keeper is (name, room, whole, row).
"""

from dimkeepers.errors import NoKeeper

LETTERS = "abcdefghijklmnopqrstuvwxyz"
MOST_LETTERS = 8
MOST_ROOM = 12
MOST_TEAMS = 3
MOST_KEEPERS = 8


def is_number(found):
    """Whether something is a whole number."""
    # Python counts True and False among the ints, the document does not.
    return isinstance(found, int) and not isinstance(found, bool)


def is_name(found):
    """Whether something is a name: one to eight small letters."""
    if not isinstance(found, str) or not 1 <= len(found) <= MOST_LETTERS:
        return False
    return all(sign in LETTERS for sign in found)


def is_room(found):
    """Whether something is a room that a keeper can have."""
    return is_number(found) and 1 <= found <= MOST_ROOM


def is_row(found, room):
    """Whether something is a list of unlike names that fits into the room."""
    if not isinstance(found, list) or len(found) > room:
        return False
    # Only names go into the set: what else may stand in the list has no hash.
    return all(is_name(thing) for thing in found) and len(set(found)) == len(found)


def is_keeper(found):
    """Whether something is a keeper, whatever the other keepers are called."""
    if not isinstance(found, tuple) or len(found) != 4:
        return False
    name, room, whole, row = found
    if not is_name(name) or not is_room(room) or not isinstance(whole, bool):
        return False
    return is_row(row, room) and (whole or len(row) == room)


def is_team(found):
    """Whether something is a team, whatever stands in its list of keepers."""
    if not isinstance(found, tuple) or len(found) != 2:
        return False
    least, keepers = found
    if not isinstance(keepers, list) or not is_number(least):
        return False
    return 0 <= least <= len(keepers)


def fault(board):
    """The first fault of a board, as a tuple that tells its place, or None."""
    taken = set()
    for t, team in enumerate(board):
        if not is_team(team):
            return ("team", t)
        for k, keeper in enumerate(team[1]):
            if not is_keeper(keeper):
                return ("keeper", t, k)
            if keeper[0] in taken:
                return ("twice", t, k)
            taken.add(keeper[0])
    return None


def keeping(name, room, whole, row):
    """A keeper that has kept of a row what its room has place for."""
    return (name, room, whole and len(row) <= room, row[-room:])


def keepers_of(board):
    """The keepers of all teams, in the order of their places."""
    return [keeper for team in board for keeper in team[1]]


def things(board):
    """The things that somebody remembers, rising."""
    return sorted({thing for keeper in keepers_of(board) for thing in keeper[3]})


def names(board):
    """The names of the keepers, rising."""
    return sorted([keeper[0] for keeper in keepers_of(board)])


def who(board, thing):
    """The names of those who remember a thing, rising."""
    return sorted([keeper[0] for keeper in keepers_of(board) if thing in keeper[3]])


def keeper_called(board, name):
    """The keeper that has this name."""
    for keeper in keepers_of(board):
        if keeper[0] == name:
            return keeper
    raise NoKeeper(f"no keeper is called {name}")


def eldest(board, name):
    """The first thing that a keeper remembers, None if it remembers nothing."""
    row = keeper_called(board, name)[3]
    return row[0] if row else None
