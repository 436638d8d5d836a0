"""Sessions: rows of text that keepers at work are told and asked, and a row of answer for each."""

from dimkeepers.boards import is_name, names, things
from dimkeepers.counts import many
from dimkeepers.errors import NoKeeper, NoRoom, NoTeam, NoTelling, Nothing, TooMany, Twice
from dimkeepers.known import ahead, newest
from dimkeepers.texts import is_figures
from dimkeepers.told import told_to
from dimkeepers.work import Keepers

DEEDS = {
    "come": ("number", "name", "number"),
    "lose": ("name",),
    "room": ("name", "number"),
    "undo": (),
}
ASKS = {
    "ahead": ("name", "name"),
    "told": ("name", "name"),
    "many": (),
    "newest": (),
    "last": (),
}


def are_written(words, kinds):
    """Whether there is a word for each kind, and it is so written."""
    if len(words) != len(kinds):
        return False
    return all(is_figures(word) if kind == "number" else is_name(word) for word, kind in zip(words, kinds))


def is_deed(words):
    """Whether a row tells a deed, or to undo one."""
    # A thing may be told to nobody, or to any number of names.
    kinds = ["name"] * max(1, len(words) - 1) if words[0] == "tell" else DEEDS.get(words[0])
    return kinds is not None and are_written(words[1:], kinds)


def is_ask(words):
    """Whether a row asks something."""
    return words[0] in ASKS and are_written(words[1:], ASKS[words[0]])


def do(keepers, words):
    """Do the deed of a row."""
    if words[0] == "come":
        keepers.come(int(words[1]), words[2], int(words[3]))
    elif words[0] == "tell":
        keepers.tell(words[1], words[2:])
    elif words[0] == "lose":
        keepers.lose(words[1])
    elif words[0] == "room":
        keepers.resize(words[1], int(words[2]))
    else:
        keepers.undo()


def answer_of_deed(keepers, words):
    """The answer to a deed: whether it was done, or the class that it was refused with."""
    try:
        do(keepers, words)
    except NoTeam:
        return "NoTeam"
    except Twice:
        return "Twice"
    except NoRoom:
        return "NoRoom"
    except NoKeeper:
        return "NoKeeper"
    except NoTelling:
        return "NoTelling"
    except Nothing:
        return "Nothing"
    return "ok"


def answer_of_ahead(board, one, other):
    """Whether one thing is ahead of another one."""
    found = things(board)
    if one not in found or other not in found or one == other:
        return "?"
    if ahead(board, one, other):
        return "yes"
    return "no" if ahead(board, other, one) else "open"


def answer_of_told(board, thing, name):
    """Whether a thing was told to a keeper."""
    if thing not in things(board) or name not in names(board):
        return "?"
    return told_to(board, thing, name)


def answer_of_many(board):
    """How many orders the board can have."""
    try:
        return str(many(board))
    except TooMany:
        return "TooMany"


def answer_of_ask(keepers, words):
    """The answer to what a row asks."""
    board = keepers.board()
    if words[0] == "ahead":
        return answer_of_ahead(board, words[1], words[2])
    if words[0] == "told":
        return answer_of_told(board, words[1], words[2])
    if words[0] == "many":
        return answer_of_many(board)
    if words[0] == "newest":
        return " ".join(newest(board))
    return " ".join([f"{one} {other};" for one, other in keepers.last()])


def answer(keepers, row):
    """The answer to a row."""
    words = row.split(" ")
    if is_deed(words):
        return answer_of_deed(keepers, words)
    return answer_of_ask(keepers, words) if is_ask(words) else "?"


def session(leasts, rows):
    """The answers to all rows, told to keepers at work of these leasts, a row for each."""
    keepers = Keepers(leasts)
    answers = []
    for row in rows.split("\n"):
        answers.append(answer(keepers, row))
    return "\n".join(answers)
