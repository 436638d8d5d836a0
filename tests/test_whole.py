"""What the document promises over the whole program, points 1 to 3 and 22, on keepers at work at the bounds."""

import itertools
import random
import unittest

from dimkeepers.boards import fault, names, things, who
from dimkeepers.counts import many, many_ahead, nth, places
from dimkeepers.known import against, ahead, eldest_ones, lot_for, lot_shows, newest, pairs
from dimkeepers.losses import freeing, showing, without
from dimkeepers.lots import stuck
from dimkeepers.orders import can_have, history_of, leaves, order_of
from dimkeepers.sessions import session
from dimkeepers.streams import apart, both, only_both
from dimkeepers.tellings import behind, kindest, lost, won
from dimkeepers.texts import read, written
from dimkeepers.told import paper, paper_shows, told_to, two_histories
from dimkeepers.work import Keepers
from tests.helpers import KEEPERS

TEXTS = ["".join(some) for some in itertools.product("abcdefghij", repeat=3)]
SIZES = (3, 3, 2)


def least_names(chance, board, rarely):
    """Names to tell a thing to: as many as must be, and rarely more."""
    told = {name for name in names(board) if chance.random() < rarely}
    for least, keepers in board:
        told.update(chance.sample([keeper[0] for keeper in keepers], least))
    return sorted(told)


def deeds_at_the_bounds(seed, leasts, rarely, rare_losses):
    """Three hundred deeds of three teams of eight keepers, whose rooms are twelve but where they were made less."""
    chance = random.Random(seed)
    keepers = Keepers(leasts)
    free = list(KEEPERS)
    for team in [t for t, size in enumerate(SIZES) for _ in range(size)]:
        keepers.come(team, free.pop(0), 12)
    texts = iter(TEXTS)
    for _ in range(292):
        board = keepers.board()
        name = chance.choice(names(board))
        _, room, whole, row = next(keeper for _, team in board for keeper in team if keeper[0] == name)
        if free:
            keepers.come(min((len(team), t) for t, (_, team) in enumerate(board))[1], free.pop(), 12)
        elif chance.random() < rare_losses:
            keepers.lose(name)
            free.append(name)
        elif chance.random() < rare_losses and room > 6:
            keepers.resize(name, room - 1)
        else:
            keepers.tell(next(texts), least_names(chance, board, rarely))
        yield keepers, board


def told_so(keepers):
    """What was told, and to whom of those who are still there and were there then."""
    told, came = [], {}
    for at, deed in enumerate(keepers.deeds()):
        if deed[0] == "come":
            came[deed[2]] = at
        elif deed[0] == "lose":
            del came[deed[1]]
        elif deed[0] == "tell":
            told.append((at, deed[1], deed[2]))
    return [(thing, [name for name in some if name in came and came[name] < at]) for at, thing, some in told]


class AtTheBounds(unittest.TestCase):

    def check_orders(self, board, history):
        order = [thing for thing, _ in history]
        self.assertEqual([], stuck(board))
        self.assertTrue(leaves(board, history))
        self.assertTrue(can_have(board, order))
        for some in (order, order_of(board)):
            self.assertTrue(leaves(board, history_of(board, some)))
        self.assertIn(order[-1], newest(board))
        self.assertIn(order[0], eldest_ones(board))

    def check_pairs(self, chance, board, history):
        order, known = [thing for thing, _ in history], set(pairs(board))
        self.assertLessEqual(known, set(itertools.combinations(order, 2)))
        for one, other in chance.sample(list(itertools.permutations(order, 2)), 6):
            lot = lot_for(board, one, other)
            self.assertIs((one, other) in known, ahead(board, one, other))
            self.assertIs((one, other) in known, lot is not None)
            if lot is None:
                other_way = against(board, one, other)
                self.assertLess(other_way.index(other), other_way.index(one))
                self.assertTrue(leaves(board, history_of(board, other_way)))
            else:
                self.assertTrue(lot_shows(board, one, other, lot))

    def check_told(self, chance, board, history):
        told = dict(history)
        for thing, name in chance.sample(list(itertools.product(things(board), names(board))), 6):
            word, found = told_to(board, thing, name), paper(board, thing, name)
            if word == "open":
                self.assertTrue(all(leaves(board, some) for some in two_histories(board, thing, name)))
            else:
                self.assertEqual(word, "yes" if name in told[thing] else "no")
                self.assertTrue(paper_shows(board, thing, name, word, found))

    def check_counts(self, chance, board):
        number = many(board)
        one, other = chance.sample(things(board), 2)
        self.assertEqual(number, many_ahead(board, one, other) + many_ahead(board, other, one))
        self.assertEqual(number, sum(places(board, one)))
        self.assertTrue(can_have(board, nth(board, chance.randrange(number))))
        self.assertEqual(order_of(board), nth(board, 0))
        return number > 1

    def check_losses(self, chance, board):
        gone = chance.sample(names(board), len(names(board)) - 3)
        left = without(board, gone)
        known = set(pairs(left))
        self.assertLessEqual(known, set(pairs(board)))
        if len(things(left)) < 2:
            return False
        one, other = chance.sample(things(left), 2)
        self.assertIs((one, other) in known, bool(showing(left, one, other)))
        self.assertIs((one, other) not in known, freeing(left, one, other) == [[]])
        told = kindest(left, "new")
        newer = behind(left, "new", told)
        order = [thing for thing in order_of(left) if thing in things(newer)]
        self.assertTrue(can_have(newer, [*order, *["new"] * bool(told)]))
        return self.check_counts(chance, left)

    def check_streams(self, board):
        one, other = board[:1], board[1:]
        self.assertEqual(board, both(one, other))
        self.assertEqual([], apart(one, other))
        self.assertEqual(sorted(set(pairs(board)) - set(pairs(one)) - set(pairs(other))), only_both(one, other))

    def test_three_hundred_deeds(self):
        most = counted = known_more = gone = 0
        for seed, (leasts, rarely, rare_losses) in enumerate([((1, 1, 1), 0.05, 0.0), ((0, 0, 0), 0.13, 0.01),
                                                             ((3, 1, 0), 0.1, 0.01), ((0, 3, 2), 0.0, 0.02)]):
            chance = random.Random(seed)
            for count, (keepers, before) in enumerate(deeds_at_the_bounds(seed, leasts, rarely, rare_losses)):
                if count % 29 != 28 and count != 291:
                    continue
                board = keepers.board()
                history = [telling for telling in told_so(keepers) if who(board, telling[0])]
                self.assertIsNone(fault(board))
                self.assertEqual(board, read(written(board)))
                self.check_orders(board, history)
                self.check_pairs(chance, board, history)
                self.check_told(chance, board, history)
                counted += self.check_losses(chance, board)
                self.check_streams(board)
                there, known = set(things(before)), set(pairs(board))
                self.assertLessEqual({pair for pair in known if set(pair) <= there}, set(pairs(before)))
                last = [pair for pair in pairs(before) if set(pair) <= set(things(board)) and pair not in known]
                self.assertEqual(last, keepers.last())
                if keepers.deeds()[-1][0] == "tell":
                    _, thing, told = keepers.deeds()[-1]
                    self.assertEqual((board, last), (behind(before, thing, told), lost(before, thing, told)))
                    self.assertEqual([pair for pair in pairs(board) if thing in pair], won(before, thing, told))
                most, known_more = max(most, len(things(board))), max(known_more, len(known))
                gone += bool(last)
            self.assertEqual(300, len(keepers.deeds()))
            for left in range(299, -1, -1):
                keepers.undo()
                self.assertEqual(left, len(keepers.deeds()))
            self.assertEqual([(0, [])] * 3, keepers.board())
        self.assertGreater(most, 60)
        self.assertGreater(known_more, 500)
        self.assertGreater(gone, 3)
        self.assertGreater(counted, 10)


class Sessions(unittest.TestCase):

    def test_a_session_of_four_thousand_signs(self):
        chance = random.Random(5)
        rows = [f"come {t} {name} 12" for t, name in zip((0, 0, 0, 1, 1, 1, 2, 2), KEEPERS)]
        keepers = Keepers([1, 0, 1])
        for row in rows:
            keepers.come(int(row.split()[1]), row.split()[2], 12)
        texts = iter(TEXTS)
        answers = ["ok"] * 8
        while len("\n".join(rows)) < 3900:
            told = least_names(chance, keepers.board(), 0.1)
            rows.append(" ".join(["tell", next(texts), *told]))
            keepers.tell(rows[-1].split()[1], told)
            one, other = chance.choice(things(keepers.board())), chance.choice(things(keepers.board()))
            rows.extend([f"ahead {one} {other}", "newest"])
            word = "yes" if ahead(keepers.board(), one, other) else "no" if ahead(keepers.board(), other,
                                                                                  one) else "open"
            answers.extend(["ok", "?" if one == other else word, " ".join(newest(keepers.board()))])
        self.assertEqual("\n".join(answers), session([1, 0, 1], "\n".join(rows)))
