"""Boards at the bounds: three teams, eight keepers, rooms of twelve, ninety-six things, a hundred tellings."""

import itertools
import random
import unittest

from dimkeepers.boards import fault, keepers_of, names, things
from dimkeepers.counts import many, many_ahead, nth, places
from dimkeepers.errors import NoOrder, TooMany
from dimkeepers.known import against, ahead, eldest_ones, lot_for, lot_shows, newest, pairs
from dimkeepers.losses import freeing, without
from dimkeepers.orders import can_have, history_of, leaves, order_of
from dimkeepers.tellings import behind, kindest, lost, won
from dimkeepers.told import paper, paper_shows, told_to, two_histories
from tests.helpers import KEEPERS, bars_by_word, drawn, drawn_teams, every_order, refusal

LETTERS = "abcdefghijklmnopqrstuvwxyz"
TWO_LETTERS = ["".join(both) for both in itertools.product(LETTERS, repeat=2)]


def teams_of(leasts, room):
    """Three teams of three, three and two keepers."""
    return [(least, [(name, room) for name in some])
            for least, some in zip(leasts, (KEEPERS[:3], KEEPERS[3:6], KEEPERS[6:]))]


def told_at_random(leasts, rarely, seed):
    """A hundred tellings, each to hardly more than must be, and the board behind them."""
    chance = random.Random(seed)
    return drawn(chance, teams_of(leasts, 12), chance.sample(TWO_LETTERS, 100), rarely)


def one_row_each(leasts, whole):
    """Eight keepers who remember ninety-six things, no two of them one thing."""
    rows = [TWO_LETTERS[12 * k:12 * k + 12] for k in range(8)]
    teams = []
    for least, some in zip(leasts, ((7, 2, 5), (0, 6, 3), (4, 1))):
        teams.append((least, [(KEEPERS[k], 12, whole, list(rows[k])) for k in some]))
    return teams


def boards():
    """Boards at the bounds that some history leaves."""
    for seed, (leasts, rarely) in enumerate([((0, 1, 0), 0.1), ((1, 1, 1), 0.05), ((2, 1, 0), 0.0), ((0, 0, 0), 0.15),
                                             ((1, 0, 2), 0.3), ((3, 3, 2), 0.0)]):
        yield told_at_random(leasts, rarely, seed)[1]
    yield one_row_each((0, 0, 0), True)
    yield one_row_each((1, 0, 0), False)
    yield one_row_each((0, 0, 1), False)


class Bounds(unittest.TestCase):

    def test_the_boards_are_at_the_bounds(self):
        most = 0
        for board in boards():
            self.assertIsNone(fault(board))
            self.assertEqual(KEEPERS, names(board))
            self.assertEqual(3, len(board))
            most = max(most, len(things(board)))
        self.assertEqual(96, most)

    def test_orders_and_histories(self):
        for board in boards():
            order = every_order(order_of, board=board)
            self.assertIs(True, every_order(can_have, board=board, order=order))
            self.assertEqual(things(board), sorted(order))
            history = every_order(history_of, board=board, order=order)
            self.assertIs(True, every_order(leaves, board=board, history=history))
            self.assertFalse(can_have(board, order[::-1]) or can_have(board, order[1:]))
            for place in range(len(order) - 1, -1, -1):
                lot = order[:place + 1]
                free = [thing for thing in lot if not bars_by_word(board, lot, thing)]
                self.assertEqual(min(free), order[place])
                told = [name for name, _, whole, row in keepers_of(board)
                        if order[place] in row or not whole and row[0] not in lot]
                self.assertEqual((order[place], sorted(told)), history[place])

    def test_pairs_each_with_its_lot_or_the_order_against_it(self):
        for seed, board in enumerate(boards()):
            known = pairs(board)
            self.assertEqual(sorted(set(known)), known)
            for one, other in random.Random(seed).sample(list(itertools.permutations(things(board), 2)), 30):
                self.assertIs((one, other) in known, ahead(board, one, other))
                if (one, other) in known:
                    self.assertTrue(lot_shows(board, one, other, lot_for(board, one, other)))
                    self.assertIsNone(against(board, one, other))
                else:
                    self.assertIsNone(lot_for(board, one, other))
                    order = against(board, one, other)
                    self.assertTrue(can_have(board, order))
                    self.assertLess(order.index(other), order.index(one))

    def test_newest_and_eldest_ones(self):
        for board in boards():
            known, found = pairs(board), things(board)
            self.assertEqual([thing for thing in found if thing not in {other for _, other in known}],
                             eldest_ones(board))
            self.assertEqual([thing for thing in found if not bars_by_word(board, found, thing)], newest(board))
        rows = [row for _, _, _, row in keepers_of(one_row_each((0, 0, 0), True))]
        self.assertEqual(sorted(row[-1] for row in rows), newest(one_row_each((0, 0, 0), True)))
        self.assertEqual(sorted(row[0] for row in rows), eldest_ones(one_row_each((0, 0, 0), True)))

    def test_words_each_with_its_paper_or_two_histories(self):
        seen = set()
        for seed, board in enumerate(boards()):
            for thing, name in random.Random(seed).sample(list(itertools.product(things(board), KEEPERS)), 40):
                word, found = told_to(board, thing, name), paper(board, thing, name)
                told = two_histories(board, thing, name)
                seen.add((word, found and found[0]))
                if word == "open":
                    self.assertIsNone(found)
                    self.assertTrue(leaves(board, told[0]) and leaves(board, told[1]))
                    self.assertIn(name, dict(told[0])[thing])
                    self.assertNotIn(name, dict(told[1])[thing])
                else:
                    self.assertIsNone(told)
                    self.assertTrue(paper_shows(board, thing, name, word, found))
        self.assertEqual({("yes", "row"), ("yes", "lot"), ("no", "whole"), ("no", "lot"), ("open", None)}, seen)

    def test_a_telling(self):
        for seed, board in enumerate(itertools.islice(boards(), 0, None, 3)):
            chance = random.Random(seed)
            told = set(chance.sample(KEEPERS, 4))
            for least, keepers in board:
                told.update(chance.sample([keeper[0] for keeper in keepers], least))
            told = sorted(told)
            left = every_order(behind, board=board, thing="new", names=told)
            self.assertIsNone(fault(left))
            self.assertTrue(can_have(left, [*[thing for thing in order_of(board) if thing in things(left)], "new"]))
            known, still, found = pairs(board), set(pairs(left)), set(things(left))
            gone = [pair for pair in known if set(pair) <= found and pair not in still]
            self.assertEqual(gone, every_order(lost, board=board, thing="new", names=told))
            self.assertEqual(sorted(pair for pair in still if "new" in pair),
                             every_order(won, board=board, thing="new", names=told))
            self.assertLessEqual({pair for pair in still if "new" not in pair}, set(known))

    def test_losses(self):
        for seed, board in enumerate(boards()):
            known, gone = set(pairs(board)), random.Random(seed).sample(KEEPERS, 2)
            left = every_order(without, board=board, names=gone)
            self.assertIsNone(fault(left))
            self.assertTrue(can_have(left, [thing for thing in order_of(board) if thing in things(left)]))
            self.assertLessEqual(set(pairs(left)), known)
            self.assertEqual(256, refusal(TooMany, freeing, board=board, one="aa", other="ab").many)
            self.assertEqual(256, refusal(TooMany, kindest, board=board, thing="new").many)

    def test_orders_of_a_few_rows_are_counted(self):
        counted = 0
        for seed in range(40):
            chance = random.Random(seed)
            teams = [(least, [(name, 12) for name in some]) for least, some in zip((1, 1, 0),
                                                                                   (["ann", "bob"], ["cid"], []))]
            board = drawn(chance, teams, chance.sample(TWO_LETTERS, 60), 0.6)[1]
            number = many(board)
            for thing in chance.sample(things(board), 3):
                self.assertEqual(number, sum(places(board, thing)))
            one, other = chance.sample(things(board), 2)
            self.assertEqual(number, many_ahead(board, one, other) + many_ahead(board, other, one))
            self.assertIs(many_ahead(board, one, other) == number, ahead(board, one, other))
            told = [nth(board, chance.randrange(number)), nth(board, number - 1), order_of(board)]
            self.assertTrue(all(can_have(board, order) for order in told))
            self.assertEqual(order_of(board), nth(board, 0))
            counted += number > 1
        self.assertGreater(counted, 10)

    def test_a_board_without_an_order(self):
        board = one_row_each((1, 1, 1), True)
        for ask in (order_of, pairs, newest, eldest_ones):
            with self.assertRaises(NoOrder) as caught:
                ask(board)
            self.assertEqual(things(board), caught.exception.lot)


class WhatWasTold(unittest.TestCase):
    """Point 22, in what it says of boards that a history leaves."""

    def test_the_order_in_which_things_were_told_is_one_that_the_board_can_have(self):
        for seed in range(60):
            chance = random.Random(seed)
            leasts = tuple(chance.randint(0, most) for most in (3, 3, 2))
            history, board = told_at_random(leasts, chance.choice([0.0, 0.1, 0.3, 0.6]), seed)
            order = [thing for thing, _ in history if thing in things(board)]
            self.assertTrue(leaves(board, history), seed)
            self.assertTrue(can_have(board, order), seed)
            self.assertTrue(leaves(board, history_of(board, order)), seed)
            self.assertLessEqual({(one, other) for one, other in pairs(board)}, set(itertools.combinations(order, 2)))

    def test_to_whom_things_were_told_is_what_is_known(self):
        for seed in range(12):
            chance = random.Random(seed)
            leasts = tuple(chance.randint(0, most) for most in (3, 3, 2))
            history, board = told_at_random(leasts, 0.2, seed)
            told = dict(history)
            for thing, name in chance.sample(list(itertools.product(things(board), KEEPERS)), 40):
                self.assertIn(told_to(board, thing, name), ("open", "yes" if name in told[thing] else "no"))

    def test_rooms_of_all_sizes(self):
        for seed in range(60):
            chance = random.Random(seed)
            teams = drawn_teams(chance, (2, 3, 3), 4)
            history, board = drawn(chance, teams, chance.sample(TWO_LETTERS, chance.randint(0, 12)), 0.3)
            order = [thing for thing, _ in history if thing in things(board)]
            self.assertTrue(leaves(board, history) and can_have(board, order), seed)
