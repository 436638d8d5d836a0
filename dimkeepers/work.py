"""Keepers at work: deeds that change what they remember, one behind the other, and undoing them.

Behind each deed there is a state: teams as on a board, but with leasts that a team may
not have keepers enough for as yet. No state is ever changed, so what is undone leaves
the one ahead of it.
"""

from dimkeepers.boards import is_name, is_room, keeper_called, keepers_of, keeping
from dimkeepers.errors import NoRoom, NoTeam, NoTelling, Nothing, Twice
from dimkeepers.known import pairs
from dimkeepers.losses import without
from dimkeepers.orders import is_telling
from dimkeepers.tellings import lost_of, told_so


def board_of(state):
    """The board of a state, its lists all new ones."""
    return [(min(least, len(keepers)), [(name, room, whole, list(row)) for name, room, whole, row in keepers])
            for least, keepers in state]


def joined(state, team, keeper):
    """The state behind the coming of a keeper."""
    return [(least, [*keepers, keeper] if t == team else keepers) for t, (least, keepers) in enumerate(state)]


def resized(state, called, given):
    """The state in which the keeper of a name has this room."""
    return [(least, [keeping(name, given if name == called else room, whole, row)
                     for name, room, whole, row in keepers])
            for least, keepers in state]


class Keepers:
    """Keepers at work in teams, of which each thing is told to at least so many."""

    def __init__(self, leasts):
        self._deeds = []
        self._states = [[(least, []) for least in leasts]]

    def _do(self, deed, state):
        """Take down a deed and the state behind it."""
        self._deeds.append(deed)
        self._states.append(state)

    def come(self, team, name, room):
        """A keeper comes to a team."""
        state = self._states[-1]
        if not 0 <= team < len(state):
            raise NoTeam(f"there is no team {team}")
        if not is_name(name) or name in [keeper[0] for keeper in keepers_of(state)]:
            raise Twice(f"{name} is there already, or is no name")
        if not is_room(room):
            raise NoRoom(f"{room} is no room")
        self._do(("come", team, name, room), joined(state, team, (name, room, True, [])))

    def tell(self, thing, names):
        """A thing is told to some keepers."""
        state = self._states[-1]
        if not is_name(thing) or thing in [deed[1] for deed in self._deeds if deed[0] == "tell"]:
            raise Twice(f"{thing} was told already, or is no name")
        for name in names:
            keeper_called(state, name)
        # Of a team that has fewer keepers than its least nobody can name enough.
        if not is_telling(state, names):
            raise NoTelling(f"{thing} cannot be told to these keepers")
        self._do(("tell", thing, list(names)), told_so(state, thing, names))

    def lose(self, name):
        """A keeper is lost."""
        self._do(("lose", name), without(self._states[-1], [name]))

    def resize(self, name, room):
        """A keeper gets a lesser room or, if it is whole, a greater one."""
        state = self._states[-1]
        _, now, whole, _ = keeper_called(state, name)
        if not is_room(room) or room == now or room > now and not whole:
            raise NoRoom(f"{name} cannot be given the room {room}")
        self._do(("room", name, room), resized(state, name, room))

    def undo(self):
        """The last deed that stands is undone."""
        if not self._deeds:
            raise Nothing("there is no deed to undo")
        self._deeds.pop()
        self._states.pop()

    def board(self):
        """What the keepers remember now."""
        return board_of(self._states[-1])

    def deeds(self):
        """The deeds that stand, the first one first."""
        return [("tell", deed[1], list(deed[2])) if deed[0] == "tell" else deed for deed in self._deeds]

    def last(self):
        """The pairs of things still remembered that are known no more by the last deed."""
        if not self._deeds:
            return []
        left = board_of(self._states[-1])
        return lost_of(pairs(board_of(self._states[-2])), left, pairs(left))
