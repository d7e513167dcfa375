import random
import unittest

from heldalways import ends
from heldalways.amounts import AmountWeb, corner_web
from heldalways.court import best_table, holds_ever
from heldalways.errors import InvalidValues, Refused
from heldalways.webs import Web
from helping import NAMES, STATES
from odd import ODD, told
from test_amounts import FLOW, random_amount_web


def alone(web, lot):
    """The web with these moves alone."""
    return Web(web.quantities, web.states, tuple([web.moves[move] for move in lot]))


def with_high(web, move, place, high):
    ranges = list(web.moves[move][3])
    ranges[place] = (ranges[place][0], high)
    moves = list(web.moves)
    moves[move] = (*moves[move][:3], tuple(ranges), moves[move][4])
    return AmountWeb(web.quantities, web.states, tuple(moves))


class Point60(unittest.TestCase):
    def test_lean_corners(self):
        self.assertEqual(ends.lean_corners(FLOW), (0, 1))
        # The ends of a range without shares, and moves that ask for nothing, do not matter.
        idle = AmountWeb(("x",), ("a",), (("m", 0, 0, ((0, 5),), (("rise", 1, 1, 0, (0,)), ("now", 1, 0, -3, (0,)))), ("n", 0, 0, ((1, 2),), ())))
        self.assertIn(ends.lean_corners(idle), ((0,), (1,)))
        self.assertEqual(ends.lean_corners(AmountWeb((), ("a",), (("m", 0, 0, ((0, 1),), ()),))), ())

    def test_lean_corners_by_trial(self):
        draw = random.Random(1)
        fewer, none = 0, 0
        for _ in range(250):
            amount_web = random_amount_web(draw, draw.choice((1, 2)), draw.choice((2, 3)), 2, 3)
            web = corner_web(amount_web)
            lot = ends.lean_corners(amount_web)
            best = best_table(web)
            self.assertEqual(best_table(alone(web, lot)), best)
            self.assertEqual(list(lot), sorted(set(lot)))
            self.assertIsInstance(lot, tuple)
            for move in lot:
                self.assertNotEqual(best_table(alone(web, [other for other in lot if other != move])), best)
            fewer += len(lot) < len(web.moves)
            none += None in best
        self.assertTrue(fewer > 100 and none > 30, (fewer, none))

    def test_greatest_amount(self):
        # From 2 the level may go to 4, and down by 2.
        self.assertEqual([ends.greatest_amount(FLOW, 0, 0, 0, (x,), 9) for x in (0, 1, 2, 3, 4)], [None, 4, 3, 2, 1])
        self.assertEqual([ends.greatest_amount(FLOW, 0, 0, 0, (x,), 1) for x in (2, 4)], [1, 1])
        self.assertEqual(ends.greatest_amount(FLOW, 0, 0, 0, (2,), -2), -2)
        self.assertEqual(ends.greatest_amount(FLOW, 0, 0, 1, (2,), 10 ** 5), 10 ** 5)
        self.assertIsNone(ends.greatest_amount(FLOW, 0, 0, 0, (9,), 10 ** 5))

    def test_greatest_amount_by_trial(self):
        draw = random.Random(2)
        found = []
        for _ in range(150):
            web = random_amount_web(draw, 1, 2, 2, 3)
            for move, told_move in enumerate(web.moves):
                for place, (low, _) in enumerate(told_move[3]):
                    values, state, most = (draw.randint(-3, 3),), draw.randrange(2), low + draw.randrange(6)
                    held = [high for high in range(low, most + 1) if holds_ever(corner_web(with_high(web, move, place, high)), state, values)]
                    expected = held[-1] if held else None
                    found.append(expected)
                    self.assertEqual(held, list(range(low, low + len(held))))
                    self.assertEqual(ends.greatest_amount(web, move, place, state, values, most), expected)
        self.assertTrue(found.count(None) > 20 and len(found) > 2 * found.count(None), found)

    def test_errors(self):
        def refused(*told_values):
            with self.assertRaises(Refused) as caught:
                ends.greatest_amount(*told_values)
            self.assertEqual(caught.exception.word, "size")
        for values in ((2,), None, (None,)):
            # A weight, an end, too far; the web ahead of the values.
            refused(FLOW, 0, 0, 0, values, 10 ** 6)
            refused(FLOW, 0, 0, 0, values, 10 ** 6 + 1)
            refused(FLOW, 0, 0, 0, values, 10 ** 400)
        two = AmountWeb((), ("a",), (("n", 0, 0, ((0, 0),), ()),) + (("m", 0, 0, ((0, 1),), ()),) * 19)
        self.assertEqual(ends.greatest_amount(two, 0, 0, 0, (), 1), 1)
        full = AmountWeb((), ("a",), two.moves + (("m", 0, 0, (), ()),))
        self.assertEqual(ends.greatest_amount(full, 0, 0, 0, (), 0), 0)
        refused(full, 0, 0, 0, (), 1)
        for value, at in ((None, -1), ([2], -1), ((2, 2), -1), ((True,), 0), ((10 ** 9 + 1,), 0)):
            with self.assertRaises(InvalidValues) as caught:
                ends.greatest_amount(FLOW, 0, 0, 0, value, 5)
            self.assertEqual(caught.exception.at, at)
        for value in ODD:
            if told(value) not in ("(0)",):
                with self.assertRaises(InvalidValues, msg=told(value)):
                    ends.greatest_amount(FLOW, 0, 0, 0, value, 5)

    def test_great(self):
        draw = random.Random(3)
        keep = tuple([("rise", at, at, 1, (1,)) for at in range(1, 7)] + [("now", at, 0, -5 * 10 ** 5, (0,)) for at in range(1, 7)]
                     + [(draw.choice(("rise", "fall", "now")), draw.randint(0, 6), draw.randint(0, 6), -9 * 10 ** 5, (1,)) for _ in range(18)])
        moves = tuple([("m", at % 8, (3 * at + 1) % 8, ((-5, 7 if at < 2 else -5),), keep) for at in range(38)])
        web = AmountWeb(NAMES, STATES, moves)
        lot = ends.lean_corners(web)
        self.assertEqual(best_table(alone(corner_web(web), lot)), best_table(corner_web(web)))
        self.assertIsNone(ends.greatest_amount(web, 0, 0, 0, (10 ** 9,) * 6, 900))
        self.assertEqual(ends.greatest_amount(web, 1, 0, 1, (-10 ** 9,) * 6, 1000) is None, not holds_ever(corner_web(with_high(web, 1, 0, -5)), 1, (-10 ** 9,) * 6))


if __name__ == "__main__":
    unittest.main()
