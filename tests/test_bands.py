import random
import unittest

from heldalways import bands
from heldalways.amounts import AmountWeb, corner_places, corner_web, corners_of, rules_at
from heldalways.court import best_table
from heldalways.errors import Refused
from helping import NAMES, STATES
from odd import ODD, STRANGE, spoiled, told
from test_amounts import BOTH, FLOW, random_amount_web


def ranged(web):
    """The pairs of a move and the number of one of its ranges."""
    return [(move, place) for move, told_move in enumerate(web.moves) for place in range(len(told_move[3]))]


def lots_from(low, high):
    """All bands of a range."""
    found = [(low,)]
    for amount in range(low + 1, high + 1):
        found += [(*lot, amount) for lot in found]
    return found


def flowing_web(draw):
    """A web whose levels follow an amount within some slack, between bounds, and another move."""
    slack = draw.randint(0, 2)
    low = draw.randint(-2, 0)
    rules = [("rise", 1, 1, -draw.randint(0, slack), (1,)), ("fall", 1, 1, -slack, (-1,)), ("now", 0, 1, 0, (0,)),
             ("now", 1, 0, -draw.randint(2, 9), (draw.choice((0, 0, 1)),))]
    more = draw.choice((0, 0, 1))
    rules = [(*rule[:4], (*rule[4], draw.randint(-1, 0))[:1 + more]) for rule in rules]
    end = draw.randrange(2)
    back = ("back", end, 0, (), tuple([("now", 0, 1, draw.randint(-1, 2), ()), ("now", 1, 0, -draw.randint(2, 5), ()),
                                       ("rise", 1, 1, -draw.randint(0, 3), ()), ("fall", 1, 1, -draw.randint(0, 3), ())][:draw.randint(0, 4)]))
    return AmountWeb(("x",), ("a", "b"), (("push", 0, end, ((low, low + draw.randint(0, 5)), (0, 1))[:1 + more], tuple(rules)), back))


class Point59(unittest.TestCase):
    def refused(self, call, *told_values):
        with self.assertRaises(Refused) as caught:
            call(*told_values)
        self.assertEqual(caught.exception.word, "size")

    def test_example(self):
        self.assertEqual(len(bands.fewest_bands(FLOW, 0, 0)), 2)

    def test_are_bands(self):
        for value, right in (((-2,), True), ((-2, 0), True), ((-2, -1, 0, 1, 2), True), ((), False), ((-1,), False), ((-2, 3), False),
                             ((-3, -2), False), ((-2, 1, 0), False), ((-2, -2), False), ([-2], False), ((-2, True), False),
                             ((-2, 1.0), False), ((-2, 10 ** 400), False), (((-2,),), False)):
            self.assertIs(bands.are_bands(FLOW, 0, 0, value), right, told(value))
        self.assertIs(bands.are_bands(BOTH, 1, 1, (5,)), True)
        self.assertIs(bands.are_bands(BOTH, 1, 1, (5, 5)), False)
        self.assertIs(bands.are_bands(BOTH, 1, 2, (-1, 2)), True)
        self.assertIs(bands.are_bands(BOTH, 1, 0, (-1, 2)), False)
        for value in [*ODD, *spoiled((-2, 0), STRANGE + [None, ()])]:
            self.assertIs(bands.are_bands(FLOW, 0, 0, value), False, told(value))

    def test_banded_web(self):
        web = bands.banded_web(FLOW, 0, 0, (-2, 0))
        self.assertEqual(web.moves, (
            ("push", 0, 1, (("rise", 1, 1, -2), ("fall", 1, 1, 1), ("now", 0, 1, 0), ("now", 1, 0, -4))),
            ("push", 0, 1, (("rise", 1, 1, 1), ("fall", 1, 1, -1), ("now", 0, 1, 0), ("now", 1, 0, -4)))))
        self.assertEqual(bands.banded_web(FLOW, 0, 0, (-2, -1, 0, 1, 2)).moves[3][3][:2], (("rise", 1, 1, 0), ("fall", 1, 1, -2)))
        # Pairs of a band and a corner of the other ranges, ascending; moves beside it keep their corners.
        web = bands.banded_web(BOTH, 1, 0, (0, 2))
        self.assertEqual([move[0] for move in web.moves], ["still", "wide", "wide", "wide", "wide"])
        weights = [move[3][0][3] for move in web.moves[1:]]
        # 4 + amount - 10 + 3 * amount of the last range.
        self.assertEqual(weights, [4 + 1 - 10 - 3, 4 + 1 - 10 + 6, 4 + 3 - 10 - 3, 4 + 3 - 10 + 6])
        web = bands.banded_web(BOTH, 1, 2, (-1, 0, 2))
        self.assertEqual([move[3][0][3] for move in web.moves[1:]],
                         [4 + first - 10 + 3 * last for last in (-1, 1, 2) for first in (0, 3)])
        self.assertEqual(bands.banded_web(BOTH, 1, 1, (5,)).moves, corner_web(BOTH).moves)

    def test_banded_webs_by_the_words(self):
        draw = random.Random(1)
        tried = 0
        for _ in range(100):
            web = random_amount_web(draw, 2, 3, 2, 3)
            for move, place in ranged(web):
                name, start, end, ranges, rules = web.moves[move]
                low, high = ranges[place]
                lot = draw.choice(lots_from(low, high))
                self.assertIs(bands.are_bands(web, move, place, lot), True)
                expected = []
                for at, corner in corner_places(web):
                    if at != move:
                        expected.append((at, (), (*web.moves[at][:3], rules_at(web, at, corner))))
                others = sorted({(*corner[:place], *corner[place + 1:]) for corner in corners_of(web, move)})
                for first, last in zip(lot, [amount - 1 for amount in lot[1:]] + [high]):
                    for corner in others:
                        every = [rules_at(web, move, (*corner[:place], amount, *corner[place:])) for amount in range(first, last + 1)]
                        sharp = tuple([(*rule[:3], max([row[at][3] for row in every])) for at, rule in enumerate(rules)])
                        expected.append((move, (first, corner), (name, start, end, sharp)))
                expected = [found for _, _, found in sorted(expected, key=lambda row: row[0])]
                self.assertEqual(bands.banded_web(web, move, place, lot).moves, tuple(expected))
                tried += 1
        self.assertGreater(tried, 200)

    def test_fewest_bands_by_trial(self):
        draw = random.Random(2)
        sizes = []
        for at in range(400):
            web = flowing_web(draw) if at % 4 else random_amount_web(draw, draw.choice((1, 2)), 2, 2, 4)
            for move, place in ranged(web):
                best = best_table(corner_web(web))
                low, high = web.moves[move][3][place]
                found = bands.fewest_bands(web, move, place)
                self.assertIs(bands.are_bands(web, move, place, found), True)
                self.assertEqual(best_table(bands.banded_web(web, move, place, found)), best)
                right = [lot for lot in lots_from(low, high) if best_table(bands.banded_web(web, move, place, lot)) == best]
                self.assertEqual(len(found), min([len(lot) for lot in right]))
                sizes.append(len(found))
        self.assertTrue(sizes.count(1) > 50 and len(sizes) - sizes.count(1) > 20, sizes)

    def test_size(self):
        slow = (("rise", 1, 1, 0, (1,)), ("fall", 1, 1, 0, (-1,)), ("now", 1, 0, -10 ** 6, (0,)), ("now", 0, 1, -10 ** 6, (0,)))
        # Up by just the amount, and behind it down to where it was: each amount must be seen.
        back = ("back", 1, 0, (), (("now", 0, 1, -1000, ()), ("now", 1, 0, -1000, ())))
        def drift(high):
            return AmountWeb(("x",), ("a", "b"), (("push", 0, 1, ((0, high),), slow), back))
        self.assertEqual(bands.fewest_bands(drift(38), 0, 0), tuple(range(39)))
        self.refused(bands.fewest_bands, drift(39), 0, 0)
        self.refused(bands.fewest_bands, drift(10 ** 6), 0, 0)
        self.assertEqual(len(bands.banded_web(drift(50), 0, 0, tuple(range(39))).moves), 40)
        self.refused(bands.banded_web, drift(50), 0, 0, tuple(range(40)))
        still = tuple([("s", 0, 0, (), ()) for _ in range(38)])
        full = AmountWeb(("x",), ("a",), still + (("push", 0, 0, ((0, 5),), ()),))
        self.assertEqual(bands.fewest_bands(full, 38, 0), (0,))
        self.assertEqual(len(bands.banded_web(full, 38, 0, (0, 1)).moves), 40)
        self.refused(bands.banded_web, full, 38, 0, (0, 1, 2))

    def test_great(self):
        draw = random.Random(3)
        for low, high, share in ((-10 ** 6, 10 ** 6, 1), (-1000, 1000, 300), (0, 0, 10 ** 6), (-9, 10 ** 6, 0)):
            moves = []
            for at in range(40):
                rules = [(draw.choice(("rise", "fall", "now")), draw.randint(0, 6), draw.randint(0, 6), draw.randint(-10 ** 5, -10 ** 4), ())
                         for _ in range(30)]
                moves.append(("m", at % 8, draw.randrange(8), (), tuple(rules)))
            rules = tuple([(*rule[:3], draw.randint(-10, 0), (draw.choice((-share, share)),)) for rule in moves[7][4]])
            rules = tuple([(*rule[:3], 0, rule[4]) for rule in rules]) if high == 10 ** 6 else rules
            web = AmountWeb(NAMES, STATES, tuple(moves[:38]) + (("m", 3, 4, ((low, high),), rules),))
            try:
                found = bands.fewest_bands(web, 38, 0)
            except Refused:
                continue
            self.assertEqual(best_table(bands.banded_web(web, 38, 0, found)), best_table(corner_web(web)))


if __name__ == "__main__":
    unittest.main()
