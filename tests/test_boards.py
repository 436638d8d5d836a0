"""What a board knows of its things and its keepers, point 5."""

import unittest

from dimkeepers.boards import eldest, names, things, who
from dimkeepers.errors import NoKeeper
from tests.helpers import every_order, example, three_teams


class Things(unittest.TestCase):

    def test_rising_and_each_once(self):
        self.assertEqual(["x", "y"], every_order(things, board=example()))
        self.assertEqual(["bob", "milk", "tea"], every_order(things, board=three_teams()))

    def test_none(self):
        self.assertEqual([], every_order(things, board=[]))
        self.assertEqual([], every_order(things, board=[(0, [])]))
        self.assertEqual([], every_order(things, board=[(1, [("ann", 2, True, [])])]))

    def test_rising_as_texts_are_compared(self):
        board = [(0, [("k", 5, True, ["b", "ab", "aa", "a", "ba"])])]
        self.assertEqual(["a", "aa", "ab", "b", "ba"], every_order(things, board=board))


class Names(unittest.TestCase):

    def test_rising_over_all_teams(self):
        self.assertEqual(["a", "b", "c"], every_order(names, board=example()))
        self.assertEqual(["ann", "bob", "cid", "dan", "eve"], every_order(names, board=three_teams()))

    def test_none(self):
        self.assertEqual([], every_order(names, board=[]))
        self.assertEqual([], every_order(names, board=[(0, []), (0, [])]))

    def test_rising_as_texts_are_compared(self):
        board = [(0, [(name, 1, True, []) for name in ("b", "ab", "a")])]
        self.assertEqual(["a", "ab", "b"], every_order(names, board=board))


class Who(unittest.TestCase):

    def test_rising_over_all_teams(self):
        board = three_teams()
        self.assertEqual(["ann", "dan"], every_order(who, board=board, thing="bob"))
        self.assertEqual(["cid", "eve"], every_order(who, board=board, thing="milk"))
        self.assertEqual(["dan", "eve"], every_order(who, board=board, thing="tea"))

    def test_a_thing_that_nobody_remembers(self):
        for thing in ("gone", "ann", "te", "", "Tea", "no name at all"):
            with self.subTest(thing):
                self.assertEqual([], every_order(who, board=three_teams(), thing=thing))
        self.assertEqual([], every_order(who, board=[], thing="tea"))

    def test_whoever_remembers_it_at_any_place(self):
        board = [(0, [("c", 3, True, ["x", "y", "z"]), ("b", 1, False, ["y"]), ("a", 2, False, ["z", "x"])])]
        self.assertEqual(["a", "c"], every_order(who, board=board, thing="x"))
        self.assertEqual(["b", "c"], every_order(who, board=board, thing="y"))


class Eldest(unittest.TestCase):

    def test_the_first_of_its_row(self):
        board = three_teams()
        for name, thing in (("dan", "tea"), ("ann", "bob"), ("cid", "milk"), ("eve", "tea")):
            with self.subTest(name):
                self.assertEqual(thing, every_order(eldest, board=board, name=name))

    def test_of_an_empty_row(self):
        self.assertIsNone(every_order(eldest, board=three_teams(), name="bob"))

    def test_a_name_that_no_keeper_has(self):
        for name in ("zoe", "tea", "an", "", "Ann", "no name at all"):
            with self.subTest(name):
                with self.assertRaises(NoKeeper):
                    eldest(three_teams(), name)
                with self.assertRaises(NoKeeper):
                    eldest(name=name, board=three_teams())
        with self.assertRaises(NoKeeper):
            eldest([], "ann")

    def test_a_refusal_changes_nothing(self):
        board = three_teams()
        with self.assertRaises(NoKeeper):
            eldest(board, "zoe")
        self.assertEqual(three_teams(), board)


class NothingKept(unittest.TestCase):

    def test_a_board_that_has_been_changed_in_between(self):
        board = three_teams()
        asked = [things(board), names(board), who(board, "bob"), eldest(board, "bob")]
        board[2][1][1][3].append("new")
        board[0][1][1][3].clear()
        self.assertEqual(["bob", "milk", "new", "tea"], things(board))
        self.assertEqual(["dan"], who(board, "bob"))
        self.assertEqual(["bob"], who(board, "new"))
        self.assertEqual("new", eldest(board, "bob"))
        self.assertIsNone(eldest(board, "ann"))
        board[0][1].pop()
        board.append((0, [("zoe", 1, True, [])]))
        self.assertEqual(["bob", "cid", "dan", "eve", "zoe"], names(board))
        with self.assertRaises(NoKeeper):
            eldest(board, "ann")
        self.assertEqual([["bob", "milk", "tea"], ["ann", "bob", "cid", "dan", "eve"], ["ann", "dan"], None], asked)

    def test_told_lists_are_the_askers_own(self):
        board = [(0, [("ann", 2, True, ["x", "y"])])]
        for ask in (things, names, lambda board: who(board, "x")):
            told = ask(board)
            before = list(told)
            told.append("more")
            told[0] = "less"
            self.assertEqual(before, ask(board))
        self.assertEqual([(0, [("ann", 2, True, ["x", "y"])])], board)

    def test_told_lists_are_no_rows_of_the_board(self):
        board = [(0, [("x", 1, True, ["x"])])]
        row = board[0][1][0][3]
        self.assertTrue(all(told is not row for told in (things(board), names(board), who(board, "x"))))
