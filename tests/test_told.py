"""Whether a thing was told to a keeper, its papers and its histories, point 14."""

import copy
import itertools
import unittest

from dimkeepers.boards import keepers_of, names, things
from dimkeepers.errors import NoKeeper, NoOrder, NoThing
from dimkeepers.orders import leaves
from dimkeepers.told import paper, paper_shows, told_to, two_histories
from tests.helpers import (
    bars_by_word, boards_with_orders, circle, every_order, example, histories_of, lots_of, one_team, small_worlds,
    three_teams, two_circles,
)

STRANGE = ["", "X", "no name at all", "x ", "xx", "1"]
ASKS = [told_to, paper, two_histories]


def each_kind():
    """Of x: a remembers it, b must have forgotten it, c is whole; of w: it is behind the eldest of a and of b."""
    return one_team(2, ("a", 2, False, ["x", "y"]), ("b", 2, False, ["y", "w"]), ("c", 3, True, ["y", "w"]))


def by_need():
    """Of a team of four three were told x and y: a, who remembers them, and both b and c."""
    return one_team(3, ("a", 2, True, ["y", "x"]), ("b", 2, False, ["z", "w"]), ("c", 2, False, ["z", "w"]),
                    ("e", 3, True, ["z", "w"]))


def words_by_histories(found, thing, name):
    """The word that all histories that leave a board tell of a thing and a keeper."""
    told = {any(other == thing and name in hearers for other, hearers in history) for history in found}
    return {(True,): "yes", (False,): "no", (False, True): "open"}[tuple(sorted(told))]


def shows_by_word(board, thing, name, word, found):
    """Whether a tuple is a paper, as point 14 tells it."""
    whole, row = next((keeper[2], keeper[3]) for keeper in keepers_of(board) if keeper[0] == name)
    if (word, found) == ("yes", ("row",)):
        return thing in row
    if (word, found) == ("no", ("whole",)):
        return thing not in row and whole
    if thing in row or len(found) != 2 or found[0] != "lot" or found[1] not in lots_of(things(board)):
        return False
    lot = found[1]
    if word == "yes":
        barred = [bars_by_word(board, lot, some, name if some == thing else None) for some in lot]
        return lot != [] and all(barred)
    if word == "no" and not whole:
        barred = [bars_by_word(board, [*lot, thing], some) for some in lot]
        return row[0] in lot and thing not in lot and all(barred)
    return False


def papers(board):
    """Tuples of all kinds: papers of each lot, and what is near to them but is none."""
    lots = [lot for some in lots_of(things(board)) for lot in (some, some[::-1], some + some[:1], [*some, "strange"])]
    found = [(), ("row",), ("whole",), ("lot",), ("",), ("open",), ("row", "row"), ("row", []), ("whole", []),
             ([],), ([], []), (["row"],), (["whole"],), ("lot", ""), ("lot", "x"), ("lot", "lot"), ("ROW",), ("x",)]
    for lot in lots:
        found.extend([("lot", lot), (lot,), ("lot", lot, []), ("lot", lot, lot), ("lot", "lot", lot), (lot, "lot"),
                      ("row", lot), ("whole", lot), ("", lot), ("Lot", lot), (["lot"], lot), ("lot", "".join(lot))])
    return found


class Asked(unittest.TestCase):

    def word_is(self, word, found, board, thing, name):
        with self.subTest(board=board, thing=thing, name=name):
            self.assertEqual(word, every_order(told_to, board=board, thing=thing, name=name))
            self.assertEqual(found, every_order(paper, board=board, thing=thing, name=name))
            if word != "open":
                self.assertIs(True, every_order(paper_shows, board=board, thing=thing, name=name, word=word, found=found))
                self.assertIsNone(every_order(two_histories, board=board, thing=thing, name=name))

    def test_the_example(self):
        self.word_is("yes", ("row",), example(), "x", "a")
        self.word_is("open", None, example(), "x", "b")
        self.word_is("open", None, example(), "x", "c")
        self.word_is("no", ("lot", ["x"]), example(), "y", "a")
        self.word_is("yes", ("row",), example(), "y", "b")

    def test_each_kind_of_paper(self):
        self.word_is("yes", ("row",), each_kind(), "x", "a")
        self.word_is("yes", ("lot", ["x"]), each_kind(), "x", "b")
        self.word_is("no", ("whole",), each_kind(), "x", "c")
        self.word_is("no", ("lot", ["x", "y"]), each_kind(), "w", "a")

    def test_the_greatest_lots(self):
        for name in "bc":
            self.word_is("yes", ("lot", ["x", "y"]), by_need(), "x", name)
            self.word_is("yes", ("lot", ["y"]), by_need(), "y", name)
        board = one_team(0, ("a", 2, True, ["w", "x"]), ("b", 2, False, ["x", "y"]), ("c", 2, True, ["y", "z"]))
        self.word_is("no", ("lot", ["w", "x", "y"]), board, "z", "b")

    def test_a_whole_one_with_an_empty_row(self):
        board = one_team(1, ("a", 1, True, ["x"]), ("b", 3, True, []))
        self.word_is("no", ("whole",), board, "x", "b")
        self.word_is("yes", ("row",), board, "x", "a")

    def test_who_is_not_counted_for_the_thing_counts_for_others(self):
        # y needs b; so if b did not count for y where x is asked, y would be barred there.
        board = one_team(3, ("a", 2, True, ["y", "x"]), ("b", 2, False, ["z", "w"]), ("c", 2, False, ["z", "w"]),
                         ("e", 3, True, ["x", "z", "w"]))
        self.word_is("yes", ("lot", ["y"]), board, "y", "b")
        self.word_is("open", None, board, "x", "b")

    def test_by_all_histories_of_small_boards(self):
        seen = set()
        for boards, left in small_worlds():
            for board in boards:
                found = histories_of(board, left)
                for thing, name in itertools.product(things(board) if found else [], names(board)):
                    expected = words_by_histories(found, thing, name)
                    self.assertEqual(expected, told_to(board, thing, name), (board, thing, name))
                    told = paper(board, thing, name)
                    seen.add((expected, told and told[0]))
                    self.assertEqual(expected == "open", told is None)
                    self.assertTrue(told is None or paper_shows(board, thing, name, expected, told))
        self.assertEqual({("yes", "row"), ("yes", "lot"), ("no", "whole"), ("no", "lot"), ("open", None)}, seen)

    def test_the_first_of_its_kinds_and_the_greatest_lot(self):
        for board, _ in boards_with_orders():
            lots = lots_of(things(board))
            for thing, name in itertools.product(things(board), names(board)):
                told = [(word, found) for word in ("yes", "no")
                        for found in [("row",), ("whole",), *[("lot", lot) for lot in lots]]
                        if shows_by_word(board, thing, name, word, found)]
                word, found = told_to(board, thing, name), paper(board, thing, name)
                self.assertEqual({word} - {"open"}, {some for some, _ in told}, (board, thing, name))
                if told and told[0][1][0] == "lot":
                    self.assertEqual(told[-1], (word, found))
                    self.assertTrue(all(set(lot) <= set(found[1]) for _, (_, lot) in told))
                else:
                    self.assertEqual(told[:1], [(word, found)][:word != "open"])


class PaperShows(unittest.TestCase):

    def shows(self, expected, board, thing, name, word, found):
        with self.subTest(board=board, thing=thing, name=name, word=word, found=found):
            told = every_order(paper_shows, board=board, thing=thing, name=name, word=word, found=found)
            self.assertIs(expected, told)

    def test_the_row(self):
        self.shows(True, example(), "x", "a", "yes", ("row",))
        self.shows(False, example(), "x", "b", "yes", ("row",))
        self.shows(False, example(), "y", "a", "yes", ("row",))
        self.shows(False, example(), "x", "a", "no", ("row",))

    def test_no_lot_of_who_remembers_it(self):
        # If a were whole and did not count, x would be told to too few.
        for board in (example(), one_team(1, ("a", 1, False, ["x"]))):
            for lot in lots_of(things(board)):
                self.shows(False, board, "x", "a", "yes", ("lot", lot))
                self.shows(False, board, "x", "a", "no", ("lot", lot))

    def test_whole(self):
        board = each_kind()
        self.shows(True, board, "x", "c", "no", ("whole",))
        self.shows(False, board, "y", "c", "no", ("whole",))
        self.shows(False, board, "w", "a", "no", ("whole",))
        self.shows(False, board, "x", "c", "yes", ("whole",))

    def test_no_lot_of_who_is_whole(self):
        board = one_team(1, ("a", 2, True, ["x"]), ("b", 2, False, ["x", "y"]))
        self.shows(True, board, "y", "a", "no", ("whole",))
        for lot in lots_of(["x", "y"]):
            self.shows(False, board, "y", "a", "no", ("lot", lot))
            self.shows(False, board, "y", "a", "yes", ("lot", lot))

    def test_lesser_lots_show_too(self):
        for lot in lots_of(["w", "x", "y", "z"]):
            self.shows(lot in (["x"], ["x", "y"]), by_need(), "x", "b", "yes", ("lot", lot))
            self.shows(lot == ["y"], by_need(), "y", "b", "yes", ("lot", lot))
        board = one_team(0, ("a", 2, True, ["w", "x"]), ("b", 2, False, ["x", "y"]), ("c", 2, True, ["y", "z"]))
        for lot in lots_of(["w", "x", "y", "z"]):
            self.shows(lot in (["x", "y"], ["w", "x", "y"]), board, "z", "b", "no", ("lot", lot))

    def test_other_words(self):
        for board in (example(), each_kind()):
            for word in ("open", "", "YES", "Yes", "yes ", "no ", "row", "lot", "maybe", "no name at all"):
                for thing, name in itertools.product(things(board), names(board)):
                    for found in [*papers(board)[::7], ("row",), ("whole",), paper(board, thing, name) or ()]:
                        self.assertIs(False, paper_shows(board, thing, name, word, found))

    def test_tuples_of_all_kinds(self):
        for board in (example(), each_kind(), by_need()):
            shown = 0
            for found in papers(board):
                for thing, name in itertools.product(things(board), names(board)):
                    for word in ("yes", "no"):
                        expected = shows_by_word(board, thing, name, word, found)
                        before = copy.deepcopy(found)
                        told = paper_shows(board, thing, name, word, found)
                        self.assertIs(expected, told, (board, thing, name, word, found))
                        self.assertEqual(before, found)
                        shown += told
            self.assertGreater(shown, 0)

    def test_all_lots_of_small_boards(self):
        for board, _ in itertools.islice(boards_with_orders(), 0, None, 3):
            found = [("row",), ("whole",), *[("lot", lot) for lot in lots_of(things(board))]]
            for thing, name, word, some in itertools.product(things(board), names(board), ("yes", "no"), found):
                expected = shows_by_word(board, thing, name, word, some)
                self.assertIs(expected, paper_shows(board, thing, name, word, some), (board, thing, name, word, some))


class TwoHistories(unittest.TestCase):

    def check(self, board, thing, name, told):
        self.assertIsInstance(told, tuple)
        self.assertEqual(2, len(told))
        for history, expected in zip(told, (True, False)):
            self.assertIsInstance(history, list)
            self.assertTrue(leaves(board, history), (board, history))
            self.assertIs(expected, name in dict(history).get(thing, []), (board, thing, name, history))
        lists = [*told, *[hearers for history in told for _, hearers in history]]
        self.assertEqual(len(lists), len({id(some) for some in lists}))

    def test_the_example(self):
        for name in "bc":
            self.check(example(), "x", name, every_order(two_histories, board=example(), thing="x", name=name))

    def test_each_thing_that_is_open_and_no_other(self):
        for board, _ in boards_with_orders():
            for thing, name in itertools.product(things(board), names(board)):
                told = two_histories(board, thing, name)
                if told_to(board, thing, name) == "open":
                    self.check(board, thing, name, told)
                else:
                    self.assertIsNone(told)


class Refusals(unittest.TestCase):

    def refused(self, error, board, thing, name):
        before = copy.deepcopy(board)
        calls = [lambda ask=ask: ask(board, thing, name) for ask in ASKS]
        calls.extend([lambda ask=ask: ask(name=name, thing=thing, board=board) for ask in ASKS])
        for word, found in (("yes", ("row",)), ("no", ("whole",)), ("", ()), ("open", ("lot", ["x"]))):
            calls.append(lambda word=word, found=found: paper_shows(board, thing, name, word, found))
        caught_all = []
        for call in calls:
            with self.subTest(board=board, thing=thing, name=name):
                with self.assertRaises(error) as caught:
                    call()
                caught_all.append(caught.exception)
        self.assertEqual(before, board)
        return caught_all

    def test_no_order_goes_first(self):
        for board, lot in ((circle(), "xyz"), (two_circles(), "pqxy"), (three_teams(), ["bob", "milk", "tea"])):
            right, name = things(board)[0], names(board)[0]
            for thing in (right, "strange", ""):
                for some in (name, "strange", ""):
                    refusals = self.refused(NoOrder, board, thing, some)
                    self.assertTrue(all(refusal.lot == list(lot) for refusal in refusals))
                    self.assertEqual(len(refusals), len({id(refusal.lot) for refusal in refusals}))

    def test_no_thing_goes_ahead_of_no_keeper(self):
        for thing in [*STRANGE, "a", "z", "abcdefghi"]:
            for name in ("a", "b", "strange", "", "x"):
                self.refused(NoThing, example(), thing, name)
        self.refused(NoThing, [], "x", "a")
        self.refused(NoThing, one_team(1, ("a", 1, True, [])), "x", "a")

    def test_no_keeper(self):
        for name in [*STRANGE, "x", "d", "abcdefghi"]:
            for thing in ("x", "y"):
                self.refused(NoKeeper, example(), thing, name)


class HandedOut(unittest.TestCase):

    def test_told_lists_are_the_askers_own(self):
        board = each_kind()
        for thing, name in (("x", "b"), ("w", "a")):
            told = paper(board, thing, name)
            before = copy.deepcopy(told)
            told[1].append("more")
            self.assertEqual(before, paper(board, thing, name))
            self.assertIsNot(paper(board, thing, name)[1], paper(board, thing, name)[1])
        board = example()
        for history in two_histories(board, "x", "b"):
            history[0][1].clear()
            history.clear()
        first, second = two_histories(board, "x", "b")
        self.assertTrue(leaves(board, first) and leaves(board, second))
        self.assertEqual(example(), board)

    def test_a_board_that_has_been_changed_in_between(self):
        board = example()
        self.assertEqual("open", told_to(board, "x", "b"))
        board[0][1][1] = ("b", 1, True, ["y"])
        self.assertEqual("no", told_to(board, "x", "b"))
        self.assertEqual(("whole",), paper(board, "x", "b"))
        self.assertEqual("yes", told_to(board, "x", "c"))
        self.assertEqual(("lot", ["x"]), paper(board, "x", "c"))
        self.assertIsNone(two_histories(board, "x", "c"))
