"""Keepers at work, points 20 to 22."""

import itertools
import random
import unittest

from dimkeepers.boards import fault, keepers_of, names, things
from dimkeepers.errors import NoKeeper, NoRoom, NoTeam, NoTelling, Nothing, Twice
from dimkeepers.known import lot_shows, pairs
from dimkeepers.orders import can_have
from dimkeepers.work import Keepers
from tests.helpers import KEEPERS, known_of, lists_in, lots_of, own_lists, refusal, spoil

NO_NAMES = ["", "X", "xY", "x y", "x1", "abcdefghi", "no name at all"]
NO_ROOMS = [0, -1, 13, 10 ** 19, -10 ** 19]
ASKS = ["board", "deeds", "last"]


def replayed(leasts, deeds):
    """The board behind deeds that stand, as points 20 and 21 tell it."""
    leasts = list(leasts)
    keepers = {}
    for word, *rest in deeds:
        if word == "come":
            keepers[rest[1]] = {"team": rest[0], "room": rest[2], "row": [], "whole": True}
        elif word == "lose":
            team = keepers.pop(rest[0])["team"]
            leasts[team] = max(0, leasts[team] - 1)
        elif word == "room":
            keepers[rest[0]]["room"] = rest[1]
        else:
            for name in rest[1]:
                keepers[name]["row"].append(rest[0])
        for keeper in keepers.values():
            while len(keeper["row"]) > keeper["room"]:
                del keeper["row"][0]
                keeper["whole"] = False
    board = []
    for t, least in enumerate(leasts):
        here = [(name, had["room"], had["whole"], had["row"]) for name, had in keepers.items() if had["team"] == t]
        board.append((min(least, len(here)), here))
    return board


def true_leasts(leasts, deeds):
    """The leasts behind losses, whether there are so many keepers or not."""
    for at, (word, *rest) in enumerate(deeds):
        if word == "lose":
            team = next(deed[1] for deed in deeds[at::-1] if deed[0] == "come" and deed[2] == rest[0])
            leasts = [max(0, least - 1) if t == team else least for t, least in enumerate(leasts)]
    return list(leasts)


def refused_by_word(leasts, deeds, deed):
    """The class that point 20 refuses a deed with, or None."""
    board = replayed(leasts, deeds)
    word, *rest = deed
    there = {keeper[0]: keeper for keeper in keepers_of(board)}
    if word == "come":
        if rest[0] not in range(len(leasts)):
            return NoTeam
        if rest[1] in there or rest[1] in NO_NAMES:
            return Twice
        return None if rest[2] in range(1, 13) else NoRoom
    if word == "tell":
        if rest[0] in NO_NAMES or rest[0] in [some[1] for some in deeds if some[0] == "tell"]:
            return Twice
        if not set(rest[1]) <= set(there):
            return NoKeeper
        enough = all(sum(keeper[0] in rest[1] for keeper in team) >= least
                     for (_, team), least in zip(board, true_leasts(leasts, deeds)))
        return None if enough and rest[1] == sorted(set(rest[1])) else NoTelling
    if rest[0] not in there:
        return NoKeeper
    if word == "lose":
        return None
    _, now, whole, _ = there[rest[0]]
    return None if rest[1] in range(1, 13) and rest[1] != now and (whole or rest[1] < now) else NoRoom


def do(keepers, deed):
    """Do a deed by its tuple."""
    word, *rest = deed
    return {"come": keepers.come, "tell": keepers.tell, "lose": keepers.lose, "room": keepers.resize}[word](*rest)


def at_work(leasts, *deeds):
    keepers = Keepers(leasts)
    for deed in deeds:
        assert do(keepers, deed) is None
    return keepers


def state(keepers):
    return keepers.board(), keepers.deeds(), keepers.last()


def drawn_deed(chance, leasts, deeds, texts, most):
    """A deed, most often one that is not refused."""
    board = replayed(leasts, deeds)
    there = names(board)
    word = chance.choice(["come"] * (9 if len(there) < 4 else 1) + ["tell"] * 9 + ["room", "lose"])
    wrong = chance.random() < 0.1
    some = chance.choice([*there, chance.choice(KEEPERS)])
    if word == "come":
        new = [name for name in KEEPERS if name not in there]
        name = chance.choice([some, "zed", ""] if wrong else new or ["zed"])
        return ("come", chance.randint(-wrong, len(leasts) - 1 + wrong), name, chance.randint(1 - wrong, most))
    if word == "tell":
        told = {name for name in there if chance.random() < 0.2}
        for (_, team), least in zip(board, true_leasts(leasts, deeds)):
            told.update(chance.sample([keeper[0] for keeper in team], min(least, len(team))))
        told = sorted(told)
        if wrong:
            told = chance.choice([told[::-1], [*told, some], told[1:], [*told, "zed"]])
        new = [thing for thing in texts if ("tell", thing) not in [deed[:2] for deed in deeds]]
        return ("tell", chance.choice(new if new and not wrong else texts), told)
    return (word, some) if word == "lose" else (word, some, chance.randint(1 - wrong, most))


class Deeds(unittest.TestCase):

    def test_a_keeper_comes(self):
        keepers = at_work([0, 0])
        self.assertEqual(([(0, []), (0, [])], [], []), state(keepers))
        self.assertIsNone(keepers.come(1, "ann", 3))
        self.assertIsNone(keepers.come(name="bob", room=12, team=0))
        self.assertIsNone(keepers.come(1, "abcdefgh", 1))
        self.assertEqual([(0, [("bob", 12, True, [])]), (0, [("ann", 3, True, []), ("abcdefgh", 1, True, [])])],
                         keepers.board())
        self.assertEqual([("come", 1, "ann", 3), ("come", 0, "bob", 12), ("come", 1, "abcdefgh", 1)], keepers.deeds())

    def test_a_thing_is_told(self):
        keepers = at_work([1], ("come", 0, "bob", 1), ("come", 0, "ann", 2))
        self.assertIsNone(keepers.tell("x", ["ann", "bob"]))
        self.assertIsNone(keepers.tell(names=["ann"], thing="y"))
        self.assertEqual([(1, [("bob", 1, True, ["x"]), ("ann", 2, True, ["x", "y"])])], keepers.board())
        keepers.tell("bob", ["ann", "bob"])
        self.assertEqual([(1, [("bob", 1, False, ["bob"]), ("ann", 2, False, ["y", "bob"])])], keepers.board())
        self.assertEqual([("tell", "x", ["ann", "bob"]), ("tell", "y", ["ann"]), ("tell", "bob", ["ann", "bob"])],
                         keepers.deeds()[2:])

    def test_a_thing_is_told_to_nobody(self):
        keepers = at_work([0], ("come", 0, "ann", 1), ("tell", "x", []))
        self.assertEqual([(0, [("ann", 1, True, [])])], keepers.board())
        self.assertEqual(("tell", "x", []), keepers.deeds()[-1])
        refusal(Twice, keepers.tell, thing="x", names=["ann"])
        at_work([0, 0, 0], ("tell", "x", []))

    def test_a_keeper_is_lost(self):
        keepers = at_work([2], ("come", 0, "ann", 1), ("come", 0, "bob", 2), ("come", 0, "cid", 3),
                          ("tell", "x", ["ann", "bob"]))
        self.assertIsNone(keepers.lose("ann"))
        self.assertEqual([(1, [("bob", 2, True, ["x"]), ("cid", 3, True, [])])], keepers.board())
        keepers.lose(name="bob")
        keepers.lose("cid")
        self.assertEqual([(0, [])], keepers.board())
        self.assertEqual([("lose", "ann"), ("lose", "bob"), ("lose", "cid")], keepers.deeds()[-3:])
        keepers.tell("y", [])

    def test_a_lost_name_comes_again(self):
        keepers = at_work([0, 0], ("come", 0, "ann", 1), ("tell", "x", ["ann"]), ("tell", "y", ["ann"]),
                          ("lose", "ann"), ("come", 1, "ann", 5), ("tell", "z", ["ann"]))
        self.assertEqual([(0, []), (0, [("ann", 5, True, ["z"])])], keepers.board())
        refusal(Twice, keepers.tell, thing="x", names=[])

    def test_a_thing_called_like_a_keeper_of_another_deed(self):
        keepers = at_work([0], ("come", 0, "ann", 2), ("come", 0, "bob", 2), ("lose", "ann"), ("room", "bob", 1),
                          ("tell", "ann", ["bob"]), ("tell", "bob", ["bob"]))
        self.assertEqual([(0, [("bob", 1, False, ["bob"])])], keepers.board())
        keepers.come(0, "ann", 1)
        refusal(Twice, keepers.tell, thing="ann", names=["ann"])

    def test_a_room_made_less(self):
        keepers = at_work([0], ("come", 0, "ann", 4), ("tell", "x", ["ann"]), ("tell", "y", ["ann"]))
        self.assertIsNone(keepers.resize("ann", 2))
        self.assertEqual([(0, [("ann", 2, True, ["x", "y"])])], keepers.board())
        keepers.resize(room=1, name="ann")
        self.assertEqual([(0, [("ann", 1, False, ["y"])])], keepers.board())
        self.assertEqual([("room", "ann", 2), ("room", "ann", 1)], keepers.deeds()[-2:])
        keepers = at_work([0], ("come", 0, "ann", 3), *[("tell", thing, ["ann"]) for thing in "vwxyz"],
                          ("room", "ann", 1))
        self.assertEqual([(0, [("ann", 1, False, ["z"])])], keepers.board())

    def test_a_room_made_greater(self):
        keepers = at_work([0], ("come", 0, "ann", 1), ("tell", "x", ["ann"]), ("room", "ann", 12))
        self.assertEqual([(0, [("ann", 12, True, ["x"])])], keepers.board())
        keepers = at_work([0], ("come", 0, "ann", 2), ("room", "ann", 1), ("room", "ann", 2))
        self.assertEqual([(0, [("ann", 2, True, [])])], keepers.board())

    def test_undone_is_the_last_deed(self):
        deeds = [("come", 0, "ann", 2), ("come", 0, "bob", 1), ("tell", "x", ["ann", "bob"]), ("tell", "y", ["bob"]),
                 ("room", "ann", 1), ("tell", "z", ["ann"]), ("lose", "bob")]
        keepers = Keepers([1])
        states = [state(keepers)]
        for deed in deeds:
            do(keepers, deed)
            states.append(state(keepers))
        for before in states[-2::-1]:
            self.assertIsNone(keepers.undo())
            self.assertEqual(before, state(keepers))
        refusal(Nothing, keepers.undo)

    def test_undoing_is_no_deed(self):
        keepers = at_work([0], ("come", 0, "ann", 1), ("come", 0, "bob", 1), ("tell", "x", ["ann"]))
        keepers.undo()
        keepers.undo()
        self.assertEqual([("come", 0, "ann", 1)], keepers.deeds())
        keepers.come(0, "cid", 1)
        keepers.undo()
        self.assertEqual([("come", 0, "ann", 1)], keepers.deeds())
        keepers.undo()
        self.assertRaises(Nothing, keepers.undo)

    def test_what_was_undone_may_be_done_again(self):
        keepers = at_work([0], ("come", 0, "ann", 1), ("tell", "x", ["ann"]))
        keepers.undo()
        keepers.tell("x", [])
        keepers.undo()
        keepers.tell("x", ["ann"])
        keepers.lose("ann")
        keepers.undo()
        self.assertRaises(Twice, keepers.come, 0, "ann", 1)
        self.assertEqual([(0, [("ann", 1, True, ["x"])])], keepers.board())

    def test_of_a_lost_keeper_the_least_comes_back_by_undoing(self):
        keepers = at_work([2], ("come", 0, "ann", 1), ("come", 0, "bob", 1), ("lose", "bob"))
        self.assertEqual([(1, [("ann", 1, True, [])])], keepers.board())
        keepers.undo()
        self.assertEqual([(2, [("ann", 1, True, []), ("bob", 1, True, [])])], keepers.board())


class Leasts(unittest.TestCase):

    def test_till_there_are_enough_the_boards_least_is_how_many_there_are(self):
        keepers = at_work([2, 1])
        self.assertEqual([(0, []), (0, [])], keepers.board())
        for team, name, leasts in ((0, "ann", [1, 0]), (1, "bob", [1, 1]), (1, "cid", [1, 1]), (0, "dan", [2, 1]),
                                   (0, "eve", [2, 1])):
            for told in ([], names(keepers.board())):
                if leasts != [2, 1]:
                    refusal(NoTelling, keepers.tell, thing="x", names=told)
            keepers.come(team, name, 1)
            self.assertEqual(leasts, [least for least, _ in keepers.board()])
            self.assertIsNone(fault(keepers.board()))
        keepers.tell("x", ["ann", "bob", "dan"])

    def test_nothing_is_told_till_each_team_has_enough(self):
        for leasts in ([1], [1, 0], [0, 1], [0, 0, 8], [1, 1, 1]):
            keepers = Keepers(leasts)
            refusal(NoTelling, keepers.tell, thing="x", names=[])
            keepers.come(0, "ann", 1)
            if leasts == [1] or leasts == [1, 0]:
                keepers.tell("x", ["ann"])
            else:
                refusal(NoTelling, keepers.tell, thing="x", names=["ann"])
        at_work([0, 0], ("tell", "x", []), ("come", 0, "ann", 1), ("tell", "y", []))

    def test_a_loss_ahead_of_the_first_telling(self):
        keepers = at_work([3], ("come", 0, "ann", 1), ("come", 0, "bob", 1), ("lose", "ann"))
        self.assertEqual([(1, [("bob", 1, True, [])])], keepers.board())
        refusal(NoTelling, keepers.tell, thing="x", names=["bob"])
        keepers.come(0, "ann", 1)
        self.assertEqual([(2, [("bob", 1, True, []), ("ann", 1, True, [])])], keepers.board())
        keepers.come(0, "cid", 1)
        self.assertEqual(2, keepers.board()[0][0])
        refusal(NoTelling, keepers.tell, thing="x", names=["ann"])
        keepers.tell("x", ["ann", "cid"])

    def test_a_least_is_not_below_none(self):
        keepers = at_work([1, 0], ("come", 0, "ann", 1), ("come", 0, "bob", 1), ("come", 1, "cid", 1), ("lose", "ann"),
                          ("lose", "bob"), ("lose", "cid"), ("come", 0, "dan", 1), ("come", 1, "eve", 1))
        self.assertEqual([0, 0], [least for least, _ in keepers.board()])
        keepers.tell("x", [])

    def test_for_fewer_than_must_be(self):
        keepers = at_work([2, 0, 1], *[("come", t, name, 1) for t, name in ((0, "a"), (0, "b"), (0, "c"), (1, "d"),
                                                                            (2, "e"), (2, "f"))])
        for told in lots_of(list("abcdef")):
            if len(set(told) & set("abc")) >= 2 and set(told) & set("ef"):
                keepers.tell("x", told)
                keepers.undo()
            else:
                refusal(NoTelling, keepers.tell, thing="x", names=told)


class Refusals(unittest.TestCase):

    def setUp(self):
        self.keepers = at_work([1, 0], ("come", 0, "ann", 2), ("come", 1, "bob", 3), ("come", 0, "cid", 1),
                               ("tell", "x", ["ann", "bob"]), ("tell", "y", ["ann"]), ("tell", "z", ["ann"]))
        self.before = state(self.keepers)

    def tearDown(self):
        self.assertEqual(self.before, state(self.keepers))
        self.keepers.undo()
        self.assertEqual(("tell", "y", ["ann"]), self.keepers.deeds()[-1])

    def test_come(self):
        for team in (-1, 2, -2, 3, 10 ** 19, -10 ** 19):
            for name in ("ann", "new", ""):
                for room in (1, 0):
                    refusal(NoTeam, self.keepers.come, team=team, name=name, room=room)
        for name in ["ann", "bob", "cid", *NO_NAMES]:
            for room in (1, 12, *NO_ROOMS):
                refusal(Twice, self.keepers.come, team=0, name=name, room=room)
        for room in NO_ROOMS:
            refusal(NoRoom, self.keepers.come, team=1, name="new", room=room)

    def test_tell(self):
        for thing in ["x", "y", "z", *NO_NAMES]:
            for told in (["ann"], [], ["zed"], ["cid", "ann"]):
                refusal(Twice, self.keepers.tell, thing=thing, names=told)
        for told in (["zed"], ["ann", "zed"], ["zed", "ann"], ["ann", "ann", ""], ["bob", "zed"], ["Ann"], ["x"]):
            refusal(NoKeeper, self.keepers.tell, thing="new", names=told)
        for told in ([], ["bob"], ["bob", "ann"], ["cid", "bob", "ann"], ["ann", "ann"], ["ann", "bob", "bob"]):
            refusal(NoTelling, self.keepers.tell, thing="new", names=told)

    def test_lose(self):
        for name in ["zed", "x", *NO_NAMES]:
            refusal(NoKeeper, self.keepers.lose, name=name)

    def test_room(self):
        for name in ["zed", "x", *NO_NAMES]:
            for room in (1, *NO_ROOMS):
                refusal(NoKeeper, self.keepers.resize, name=name, room=room)
        for name, room in (("ann", 2), ("bob", 3), ("cid", 1), ("ann", 3), ("ann", 12)):
            refusal(NoRoom, self.keepers.resize, name=name, room=room)
        for name, room in itertools.product(["ann", "bob", "cid"], NO_ROOMS):
            refusal(NoRoom, self.keepers.resize, name=name, room=room)

    def test_a_stranger_is_told_of_where_nothing_can_be_told_yet(self):
        keepers = at_work([2], ("come", 0, "ann", 1))
        refusal(NoKeeper, keepers.tell, thing="x", names=["zed"])
        refusal(Twice, keepers.tell, thing="X", names=["zed"])
        refusal(NoTelling, keepers.tell, thing="x", names=["ann"])


class NothingToUndo(unittest.TestCase):

    def test_of_no_deeds(self):
        keepers = Keepers(leasts=[1])
        refusal(Nothing, keepers.undo)
        refusal(NoTeam, keepers.come, team=1, name="ann", room=1)
        refusal(Nothing, keepers.undo)


class Last(unittest.TestCase):

    def last(self, expected, leasts, *deeds):
        keepers = at_work(leasts, *deeds)
        self.assertEqual(expected, keepers.last(), deeds)
        return keepers

    def test_each_kind_of_deed(self):
        start = [("come", 0, "ann", 2), ("come", 0, "bob", 1), ("come", 0, "cid", 1), ("tell", "x", ["ann", "bob"]),
                 ("tell", "y", ["ann", "cid"])]
        self.last([], [0])
        self.last([], [0], *start[:1])
        self.last([], [0], *start)
        self.last([("x", "y")], [0], *start, ("tell", "z", ["ann"]))
        self.last([], [0], *start, ("tell", "z", ["ann"]), ("tell", "w", []))
        self.last([], [0], *start, ("tell", "z", ["ann", "bob"]))
        self.last([], [0], *start, ("tell", "z", ["bob"]))
        self.last([("x", "y")], [0], *start, ("lose", "ann"))
        self.last([], [0], *start, ("lose", "bob"))
        self.last([("x", "y")], [0], *start, ("room", "ann", 1))
        self.last([], [0], *start, ("room", "ann", 3))
        self.last([], [0], *start, ("come", 0, "dan", 1))

    def test_behind_undoing_it_is_that_of_the_deed_that_stands(self):
        keepers = self.last([("x", "y")], [0], ("come", 0, "ann", 2), ("come", 0, "bob", 1), ("come", 0, "cid", 1),
                            ("tell", "x", ["ann", "bob"]), ("tell", "y", ["ann", "cid"]), ("lose", "ann"))
        keepers.undo()
        self.assertEqual([], keepers.last())
        keepers.tell("z", ["ann"])
        self.assertEqual([("x", "y")], keepers.last())
        keepers.come(0, "dan", 1)
        self.assertEqual([], keepers.last())
        keepers.undo()
        self.assertEqual([("x", "y")], keepers.last())

    def test_rising(self):
        deeds = [("come", 0, "ann", 4), *[("come", 0, name, 1) for name in "abcd"],
                 *[("tell", thing, sorted([keeper, "ann"])) for thing, keeper in zip("qpsr", "abcd")],
                 ("lose", "ann")]
        self.last([("p", "r"), ("p", "s"), ("q", "p"), ("q", "r"), ("q", "s"), ("s", "r")], [0], *deeds)


class Drawn(unittest.TestCase):
    """Rows of drawn deeds, of which some are refused and some undone."""

    def rows_of_deeds(self, number, texts, count, most=4):
        for seed in range(number):
            chance = random.Random(seed)
            leasts = [chance.choice([0, 1, 1, 2]) for _ in range(chance.randint(1, 3))]
            keepers, stands = Keepers(leasts), []
            for _ in range(count):
                before = keepers.board()
                if stands and chance.random() < 0.07:
                    self.assertIsNone(keepers.undo())
                    yield keepers, leasts, stands, before, stands.pop()
                deed = drawn_deed(chance, leasts, stands, texts, most)
                refused = refused_by_word(leasts, stands, deed)
                before = keepers.board()
                if refused is None:
                    self.assertIsNone(do(keepers, deed), deed)
                    stands.append(deed)
                    yield keepers, leasts, stands, before, None
                else:
                    with self.assertRaises(refused, msg=(stands, deed)):
                        do(keepers, deed)

    def test_boards_and_deeds(self):
        seen = set()
        for keepers, leasts, stands, _, undone in self.rows_of_deeds(60, ["x", "y", "zz", "X", *"abcdefghijklmno"], 60):
            self.assertEqual(replayed(leasts, stands), keepers.board())
            self.assertEqual(stands, keepers.deeds())
            self.assertIsNone(fault(keepers.board()))
            seen.add(undone[0] if undone else stands[-1][0] + " stands")
        self.assertEqual({"come", "tell", "room", "lose", "come stands", "tell stands", "room stands", "lose stands"},
                         seen)

    def test_what_is_known_is_so(self):
        told_of = 0
        for keepers, leasts, stands, before, undone in self.rows_of_deeds(40, "abcdefghijklmnopqrstuvwxyz", 50):
            board = keepers.board()
            order = [deed[1] for deed in stands if deed[0] == "tell" and deed[1] in things(board)]
            self.assertTrue(can_have(board, order), stands)
            known = set(pairs(board))
            self.assertLessEqual(known, set(itertools.combinations(order, 2)))
            if undone is None:
                # Of things that were there nothing more is known, whatever the deed was.
                there = set(things(before))
                self.assertLessEqual({pair for pair in known if set(pair) <= there}, set(pairs(before)))
                gone = [pair for pair in pairs(before) if set(pair) <= set(things(board)) and pair not in known]
                self.assertEqual(gone, keepers.last())
                told_of += bool(gone)
        self.assertGreater(told_of, 50)

    def test_last_by_all_orders_of_small_boards(self):
        told_of = 0
        for keepers, leasts, stands, _, _ in self.rows_of_deeds(60, "abcdef", 25, 3):
            board = keepers.board()
            before = known_of(replayed(leasts, stands[:-1]))
            gone = sorted(pair for pair in before - known_of(board) if set(pair) <= set(things(board)))
            self.assertEqual(gone if stands else [], keepers.last(), stands)
            told_of += bool(gone)
        self.assertGreater(told_of, 20)

    def test_a_lot_shows_a_pair_ahead_of_the_deed_with_what_stood_ahead(self):
        shown = set()
        for keepers, leasts, stands, before, undone in self.rows_of_deeds(25, "abcdefg", 25, 3):
            board = keepers.board()
            rows = [row for _, _, _, row in keepers_of(before)]
            there = things(before)
            for one, other in pairs(board) if undone is None else []:
                for lot in lots_of(things(board)) if {one, other} <= set(there) else []:
                    if lot_shows(board, one, other, lot):
                        stood = {thing for row in rows for some in row if some in [*lot, other]
                                 for thing in row[:row.index(some)]}
                        self.assertTrue(lot_shows(before, one, other, sorted({*lot, *stood})), (stands, lot))
                        shown.add((stands[-1][0], tuple(sorted(stood - set(lot)))))
        self.assertEqual({"come", "tell", "room", "lose"}, {word for word, _ in shown})
        self.assertGreater(len(shown), 10)


class HandedOut(unittest.TestCase):

    def test_told_lists_are_new_ones(self):
        keepers = at_work([1], ("come", 0, "ann", 2), ("come", 0, "bob", 1), ("come", 0, "cid", 1),
                          ("tell", "x", ["ann", "bob"]), ("tell", "y", ["ann", "cid"]), ("room", "ann", 1))
        before = state(keepers)
        self.assertEqual([("x", "y")], before[2])
        for ask in ASKS:
            own_lists(lambda ask=ask: getattr(keepers, ask)())
        told = state(keepers), state(keepers)
        self.assertEqual(len(lists_in(told)), len({id(some) for some in lists_in(told)}))
        spoil(told)
        self.assertEqual(before, state(keepers))
        keepers.undo()
        self.assertEqual([("x", "y")], pairs(keepers.board()))

    def test_told_boards_stay_as_they_were(self):
        keepers = at_work([0], ("come", 0, "ann", 2), ("tell", "x", ["ann"]))
        told = state(keepers)
        keepers.tell("y", ["ann"])
        keepers.tell("z", ["ann"])
        self.assertEqual(([(0, [("ann", 2, True, ["x"])])], [("come", 0, "ann", 2), ("tell", "x", ["ann"])], []), told)

    def test_handed_lists_may_change_behind_the_call(self):
        leasts, told = [1, 0], ["ann", "bob"]
        keepers = at_work(leasts, ("come", 0, "ann", 2), ("come", 1, "bob", 1), ("tell", "x", told))
        leasts.append(0)
        leasts[0] = 0
        told.clear()
        self.assertEqual([(1, [("ann", 2, True, ["x"])]), (0, [("bob", 1, True, ["x"])])], keepers.board())
        self.assertEqual(("tell", "x", ["ann", "bob"]), keepers.deeds()[-1])
        refusal(NoTeam, keepers.come, team=2, name="cid", room=1)
        refusal(NoTelling, keepers.tell, thing="y", names=["bob"])

    def test_two_at_work_have_nothing_in_common(self):
        leasts = [0]
        first, second = Keepers(leasts), Keepers(leasts)
        first.come(0, "ann", 1)
        self.assertEqual(([(0, [])], [], []), state(second))
        second.come(0, "ann", 2)
        first.tell("x", ["ann"])
        self.assertEqual([(0, [("ann", 2, True, [])])], second.board())
