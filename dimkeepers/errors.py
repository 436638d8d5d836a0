"""The errors of the program: one class for each kind of refusal."""


class NoTelling(ValueError):
    """A thing is not told so: not yet, to too few, or to names that do not rise."""


class NoTeam(LookupError):
    """There is no team at this place."""


class NoKeeper(LookupError):
    """No keeper has this name."""


class NoThing(LookupError):
    """No keeper remembers a thing of this name."""


class NoNumber(LookupError):
    """No order has this number."""


class NoRoom(ValueError):
    """A room is none, or a keeper cannot be given it."""


class Twice(ValueError):
    """A name is there already, or is none."""


class Nothing(RuntimeError):
    """There is no deed left to undo."""


class NoOrder(ValueError):
    """A board can have no order; `lot` is the stuck lot that shows it."""

    def __init__(self, lot):
        # The message takes the lot's place among what the base keeps, which
        # would otherwise hold the very list that was handed in.
        ValueError.__init__(self, "the board cannot have this order")
        self.lot = list(lot)


class TooMany(ValueError):
    """There is too much to look through; `many` tells how much."""

    def __init__(self, many):
        ValueError.__init__(self, f"too many: {many}")
        self.many = many


class NoText(ValueError):
    """A text is not that of a board; `row` is the first row that is wrong."""

    def __init__(self, row):
        ValueError.__init__(self, f"row {row} is not written so")
        self.row = row
