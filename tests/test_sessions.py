"""Sessions, point 25."""

import itertools
import random
import re
import unittest

from dimkeepers import errors
from dimkeepers.boards import names, things
from dimkeepers.counts import many
from dimkeepers.errors import TooMany
from dimkeepers.known import newest, pairs
from dimkeepers.sessions import session
from dimkeepers.told import told_to
from dimkeepers.work import Keepers
from tests.helpers import every_order

NAME, NUMBER = "[a-z]{1,8}", "(?:0|[1-9][0-9]{0,8})"
WRITTEN = re.compile(f"come {NUMBER} {NAME} {NUMBER}|tell {NAME}(?: {NAME})*|lose {NAME}|room {NAME} {NUMBER}|undo|"
                     f"ahead {NAME} {NAME}|told {NAME} {NAME}|many|newest|last")


def by_word(keepers, row):
    """The answer to a row, as point 25 tells it, of keepers at work who are told it by this."""
    if not WRITTEN.fullmatch(row):
        return "?"
    word, *rest = row.split()
    deeds = {"come": lambda: keepers.come(int(rest[0]), rest[1], int(rest[2])),
             "tell": lambda: keepers.tell(rest[0], rest[1:]), "lose": lambda: keepers.lose(rest[0]),
             "room": lambda: keepers.resize(rest[0], int(rest[1])), "undo": lambda: keepers.undo()}
    if word in deeds:
        try:
            deeds[word]()
        except (errors.NoTeam, errors.Twice, errors.NoRoom, errors.NoKeeper, errors.NoTelling,
                errors.Nothing) as refused:
            return refused.__class__.__name__
        return "ok"
    board = keepers.board()
    if word == "ahead":
        if not set(rest) <= set(things(board)) or rest[0] == rest[1]:
            return "?"
        known = pairs(board)
        return "yes" if tuple(rest) in known else "no" if tuple(rest[::-1]) in known else "open"
    if word == "told":
        return told_to(board, *rest) if rest[0] in things(board) and rest[1] in names(board) else "?"
    if word == "many":
        try:
            return f"{many(board)}"
        except TooMany:
            return "TooMany"
    return " ".join(newest(board) if word == "newest" else [f"{one} {other};" for one, other in keepers.last()])


def drawn_row(chance, letters):
    """A row, most often one that is so written and not refused."""
    name = chance.choice(["ann", "bob", "cid", "dan"])
    more = sorted({"ann", *chance.sample(["bob", "cid", "dan"], chance.randint(0, 2))})
    one, other = chance.choice(letters), chance.choice(letters)
    row = chance.choice([f"come {chance.randint(0, 2)} {name} {chance.randint(0, 4)}",
                         f"come 0 ann {chance.randint(1, 4)}",
                         *[f"tell {one} {' '.join(more)}", f"tell {other} {name}", f"tell {one}"] * 2, f"lose {name}",
                         f"room {name} {chance.randint(0, 4)}", "undo", *[f"ahead {one} {other}"] * 3,
                         *[f"told {one} {name}"] * 3, "many", "newest", "last"])
    if chance.random() < 0.1:
        at = chance.randint(0, len(row))
        row = row[:at] + chance.choice(["", " ", "0", "x", ":", "X"]) + row[at + chance.randint(0, 1):]
    return row


class Sessions(unittest.TestCase):

    def told(self, leasts, *told):
        """Rows and their answers, turn by turn; each answer is the same whatever rows come behind it."""
        rows, answers = list(told[::2]), list(told[1::2])
        given = every_order(session, leasts=leasts, rows="\n".join(rows))
        self.assertEqual(list(zip(rows, answers)), list(zip(rows, given.split("\n"))))
        self.assertEqual(len(rows), len(given.split("\n")))
        for count in range(1, len(rows)):
            self.assertEqual("\n".join(answers[:count]), session(leasts, "\n".join(rows[:count])))

    def test_each_deed(self):
        self.told([1, 0], "come 0 ann 2", "ok", "come 1 bob 1", "ok", "tell x ann bob", "ok", "tell y ann", "ok",
                  "tell z bob ann", "NoTelling", "tell z ann", "ok", "room ann 1", "ok", "lose bob", "ok", "undo", "ok",
                  "lose ann", "ok", "tell w", "ok", "undo", "ok", "undo", "ok", "undo", "ok", "newest", "z",
                  "undo", "ok", "undo", "ok", "undo", "ok", "undo", "ok", "undo", "ok", "undo", "Nothing")

    def test_each_ask(self):
        self.told([2], "newest", "", "many", "1", "last", "", "come 0 ann 1", "ok", "come 0 bob 1", "ok",
                  "come 0 cid 1", "ok", "tell x ann bob", "ok", "tell y bob cid", "ok", "newest", "y", "many", "1",
                  "ahead x y", "yes", "ahead y x", "no", "told x ann", "yes", "told x bob", "yes", "told x cid", "no",
                  "last", "", "tell z bob cid", "ok", "newest", "z", "told x bob", "open", "told z ann", "no", "undo",
                  "ok", "tell z ann bob", "ok", "last", "", "ahead y z", "yes")

    def test_open_and_several_newest_things(self):
        self.told([0], "come 0 bob 2", "ok", "come 0 ann 2", "ok", "tell y ann", "ok", "tell x bob", "ok",
                  "ahead x y", "open", "ahead y x", "open", "newest", "x y", "many", "2", "tell w ann", "ok",
                  "newest", "w x", "many", "3")

    def test_last_with_several_pairs(self):
        self.told([0], "come 0 all 4", "ok", *[text for name, thing in zip("abc", "zyx") for text in (
            f"come 0 {name} 1", "ok", f"tell {thing} {' '.join(sorted(['all', name]))}", "ok", "last", "")],
            "lose all", "ok", "last", "y x; z x; z y;", "many", "6", "newest", "x y z", "undo", "ok", "last", "",
            "room all 2", "ok", "last", "z x; z y;", "room all 1", "ok", "last", "y x;", "come 1 b 1", "NoTeam",
            "last", "y x;")

    def test_refused_ones(self):
        self.told([2, 0], "undo", "Nothing", "come 2 ann 1", "NoTeam", "come 999999999 ann 0", "NoTeam",
                  "come 0 ann 0", "NoRoom", "come 1 ann 13", "NoRoom", "come 0 ann 1", "ok", "come 1 ann 13", "Twice",
                  "tell x ann", "NoTelling", "tell x bob", "NoKeeper", "tell x", "NoTelling", "come 0 bob 2", "ok",
                  "tell x", "NoTelling", "tell x bob ann", "NoTelling", "tell x ann ann", "NoTelling",
                  "tell x ann bob", "ok", "tell x ann bob", "Twice", "tell x zed", "Twice", "lose zed", "NoKeeper",
                  "room zed 0", "NoKeeper", "room ann 1", "NoRoom", "room ann 0", "NoRoom", "room bob 13", "NoRoom",
                  "tell y ann bob", "ok", "room ann 2", "NoRoom", "room bob 1", "ok", "room bob 2", "NoRoom",
                  "lose x", "NoKeeper")

    def test_what_is_not_there(self):
        self.told([0], "come 0 ann 1", "ok", "tell x ann", "ok", "tell w", "ok", "ahead x x", "?", "ahead x w", "?",
                  "ahead w x", "?", "ahead x ann", "?", "ahead y z", "?", "told x bob", "?", "told w ann", "?",
                  "told y bob", "?", "told ann x", "?", "told x ann", "yes", "tell y ann", "ok", "told x ann", "?",
                  "ahead x y", "?", "told y ann", "yes", "lose ann", "ok", "told y ann", "?", "newest", "")

    def test_rows_not_so_written(self):
        wrong = ["", " ", "come", "come 0 ann", "come 0 ann 1 ", " come 0 ann 1", "come  0 ann 1", "come 0 ann  1",
                 "come ann 0 1", "come -1 ann 1", "come +0 ann 1", "come 00 ann 1", "come 0 ann 01", "come 0 Ann 1",
                 "come 0 abcdefghi 1", "come 0 ann 1 1", "come 0 ann x", "come 1000000000 ann 1",
                 "come 0 ann 1000000000", "come 0 an1 1", "come 0 ann 1.0", "Come 0 ann 1", "come 0 ann \u0661",
                 "come\t0 ann 1", "come 0 ann 1\r", "tell", "tell ", "tell X", "tell x ", "tell x  ann", "tell x Ann",
                 "tell x1", "tell abcdefghi", "tell x ann,bob", "tell x abcdefghi", "tell x 1", "lose", "lose ",
                 "lose 1", "lose ann ann", "lose Ann", "lose abcdefghi", "room", "room ann", "room ann x",
                 "room ann 01", "room 1 ann", "room ann 1 1", "room ann -1", "undo ", " undo", "undo 1", "undo x",
                 "Undo", "ahead", "ahead x", "ahead x y z", "ahead x Y", "ahead x  y", "ahead 1 2", "told", "told x",
                 "told x ann bob", "told x Ann", "told 1 ann", "many ", "many x", "manyx", "newest x", " newest",
                 "last ", "last x", "deeds", "board", "x", "?", "ok", "number", "name", "come:", "resize ann 1"]
        for row in wrong:
            self.told([0], row, "?")
            self.told([0], "come 0 ann 2", "ok", "tell x ann", "ok", row, "?", "newest", "x", "many", "1", "undo", "ok",
                      "undo", "ok", "undo", "Nothing")
        self.assertEqual("\n".join("?" * len(wrong)), session([0], "\n".join(wrong)))

    def test_words_that_are_names(self):
        self.told([0], "come 0 tell 1", "ok", "tell come tell", "ok", "lose come", "NoKeeper", "told come tell", "yes",
                  "newest", "come", "room tell 999999999", "NoRoom", "room tell 12", "ok", "tell abcdefgh tell", "ok",
                  "ahead abcdefgh come", "no", "lose tell", "ok", "newest", "")

    def test_so_many_answers_as_rows(self):
        self.assertEqual("?", session([0], ""))
        self.assertEqual("?\n?", session([0], "\n"))
        self.assertEqual("?\nok\n?\n", session([0], "\ncome 0 ann 1\n\nnewest"))
        self.assertEqual("\n", session([0], "newest\nlast"))
        self.assertEqual("", session([0], "last"))
        self.assertEqual("ok\n?", session([0], "come 0 ann 1\n"))

    def test_too_many(self):
        texts = ["".join(both) for both in itertools.product("abcdefgh", repeat=2)]
        rows = [f"come 0 {name} 12" for name in "abcd"]
        rows.extend(f"tell {text} {name}" for text, name in zip(texts, "a" * 9 + "b" * 9 + "c" * 9 + "d" * 9))
        answers = session([0], "\n".join([*rows, "many", "come 0 e 1", "many", "tell zz e", "many", "come 0 f 1",
                                          "tell zy f", "many", "newest", "undo", "many"])).split("\n")
        self.assertEqual(["ok"] * len(rows), answers[:len(rows)])
        number, greater = "21452752266265320000", str(21452752266265320000 * 37)
        newest_ones = " ".join([*texts[8:36:9], "zy", "zz"])
        self.assertEqual([number, "ok", number, "ok", greater, "ok", "ok", "TooMany", newest_ones, "ok", greater],
                         answers[len(rows):])

    def test_drawn_sessions(self):
        seen = set()
        for seed in range(150):
            chance = random.Random(seed)
            leasts = [chance.choice([0, 0, 1]), *[0] * chance.randint(0, 2)][:chance.randint(1, 3)]
            rows = ["come 0 ann 2", "come 0 bob 3", *[drawn_row(chance, "uvwxyz") for _ in range(60)]]
            keepers = Keepers(leasts)
            answers = [by_word(keepers, row) for row in rows]
            self.assertEqual("\n".join(answers), session(leasts, "\n".join(rows)))
            seen.update((row.split(" ")[0], answer.split(" ")[0]) for row, answer in zip(rows, answers))
        for word, answer in (("come", "ok"), ("come", "NoTeam"), ("come", "Twice"), ("come", "NoRoom"),
                             ("tell", "ok"), ("tell", "Twice"), ("tell", "NoKeeper"), ("tell", "NoTelling"),
                             ("lose", "ok"), ("room", "ok"), ("lose", "NoKeeper"), ("room", "NoKeeper"),
                             ("room", "NoRoom"), ("undo", "ok"), ("undo", "Nothing"), ("ahead", "yes"),
                             ("ahead", "no"), ("ahead", "open"), ("ahead", "?"), ("told", "yes"), ("told", "no"),
                             ("told", "open"), ("told", "?"), ("many", "2"), ("newest", "x"), ("last", "v")):
            self.assertIn((word, answer), seen)


class HandedIn(unittest.TestCase):

    def test_leasts_stay_and_nothing_is_kept(self):
        leasts = [0, 1]
        for _ in range(2):
            self.assertEqual("ok\nok\nok\nx", session(leasts, "come 0 ann 1\ncome 1 bob 1\ntell x bob\nnewest"))
        self.assertEqual([0, 1], leasts)
        leasts[1] = 0
        self.assertEqual("ok\nok\nx", session(leasts, "come 0 ann 1\ntell x ann\nnewest"))
