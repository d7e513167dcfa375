import random
import unittest
from itertools import product

from heldalways import bounds, solving
from heldalways.errors import Refused
from heldalways.solving import Circled, Clash, Solved
from odd import ODD, STRANGE, spoiled, told
from test_bounds import RING, keeps, random_rows, weight

ROWS = ((None, 2, None), (None, None, 3), (-9, None, 0))


class Point23(unittest.TestCase):
    def test_classes(self):
        for value in ODD:
            self.assertIs(Solved(value).setting, value)
            self.assertIs(Circled(value).walk, value)
            self.assertIs(Clash(walk=value).walk, value)

    def test_right_ones(self):
        fixed = (None, 4, None)
        self.assertIs(solving.is_solution(ROWS, fixed, Solved((0, 4, 8))), True)
        self.assertIs(solving.is_solution(ROWS, (0, None, 9), Clash((0, 1, 2))), False)
        self.assertIs(solving.is_solution(ROWS, (0, None, 5), Clash((0, 1, 2))), False)
        self.assertIs(solving.is_solution(ROWS, (0, None, 4), Clash((0, 1, 2))), True)
        self.assertIs(solving.is_solution(RING, (None,) * 3, Circled((0, 1, 2, 0))), True)
        self.assertIs(solving.is_solution(RING, (5, None, None), Clash((0, 1, 2, 0))), True)
        self.assertIs(solving.is_solution(RING, (5, None, None), Clash((0,))), False)
        self.assertIs(solving.is_solution((), (), Solved(())), True)

    def test_wrong_ones(self):
        fixed = (0, None, 4)
        for value in (Solved((0, 4, 8)), Solved((0, 1, 4)), Solved((0, 1)), Solved([0, 2, 5]), Solved(None),
                      Circled((0, 1, 2, 0)), Circled((0,)), Circled(()), Clash((0, 1)), Clash((1, 2)), Clash((2, 0)),
                      Clash((0, 2)), Clash(()), Clash((3,)), Clash([0, 1, 2]), (0, 1, 2)):
            self.assertIs(solving.is_solution(ROWS, fixed, value), False)
        for value in ODD:
            self.assertIs(solving.is_solution(ROWS, fixed, value), False)
            for kind in (Solved, Circled, Clash):
                self.assertIs(solving.is_solution(ROWS, fixed, kind(value)), False, told(value))
                self.assertIs(solving.is_solution(ROWS, fixed, kind(kind(value))), False)
        for walk in spoiled((0, 1, 2), STRANGE + [None, "a", 10 ** 400]):
            self.assertIs(solving.is_solution(ROWS, fixed, Clash(walk)), False, told(walk))
            self.assertIs(solving.is_solution(RING, fixed, Circled(walk)), False, told(walk))
        for setting in spoiled((0, 2, 5), STRANGE + [None, "a"]):
            self.assertIs(solving.is_solution(ROWS, (0, None, None), Solved(setting)), False, told(setting))

    def test_small(self):
        self.assertEqual(solving.solution((), ()).setting, ())
        self.assertEqual(solving.number_ranges((), ()), ())
        self.assertEqual(solving.solution(((0,),), (7,)).setting, (7,))
        self.assertEqual(solving.number_ranges(((None,),), (None,)), ((None, None),))
        self.assertEqual(solving.number_ranges(((-1,),), (7,)), ((7, 7),))
        self.assertEqual(solving.number_ranges(ROWS, (0, None, None)), ((0, 0), (2, 6), (5, 9)))
        self.assertEqual(solving.number_ranges(ROWS, (None, 4, None)), ((-2, 2), (4, 4), (7, 11)))
        self.assertEqual(solving.number_ranges(((None, 3), (None, None)), (1, None)), ((1, 1), (4, None)))
        self.assertEqual(solving.number_ranges(((None, 3), (None, None)), (None, 1)), ((None, -2), (1, 1)))

    def refused(self, word, rows, fixed):
        with self.assertRaises(Refused) as caught:
            solving.number_ranges(rows, fixed)
        self.assertEqual(caught.exception.word, word)

    def test_refused(self):
        self.refused("ring", RING, (None, None, None))
        self.refused("ring", RING, (0, 0, 0))
        self.refused("fixed", ROWS, (0, 1, None))
        self.refused("fixed", ROWS, (0, None, 10))
        self.refused("fixed", ((None, None), (1, None)), (5, 5))

    def test_by_trial(self):
        draw = random.Random(3)
        seen = {Solved: 0, Circled: 0, Clash: 0}
        for _ in range(600):
            many = draw.randrange(1, 4)
            rows = random_rows(draw, many, -4, 2, 0.3)
            fixed = tuple([draw.choice((None, draw.randint(-3, 3))) for _ in range(many)])
            spans = [range(-16, 17) if number is None else (number,) for number in fixed]
            kept = [setting for setting in product(*spans) if keeps(rows, setting)]
            found = solving.solution(rows, fixed)
            seen[type(found)] += 1
            self.assertIs(solving.is_solution(rows, fixed, found), True)
            self.assertEqual(isinstance(found, Solved), kept != [])
            if isinstance(found, Solved):
                self.assertTrue(keeps(rows, found.setting))
                self.check_ranges(rows, fixed, kept)
            elif isinstance(found, Circled):
                self.assertTrue(bounds.is_point_ring(rows, found.walk))
                self.refused("ring", rows, fixed)
            else:
                first, last = fixed[found.walk[0]], fixed[found.walk[-1]]
                self.assertGreater(weight(rows, found.walk), last - first)
                if bounds.ring_in(rows) is None:
                    self.refused("fixed", rows, fixed)
        self.assertGreater(min(seen.values()), 20)

    def check_ranges(self, rows, fixed, kept):
        ranges = solving.number_ranges(rows, fixed)
        for at, (low, high) in enumerate(ranges):
            numbers = sorted({setting[at] for setting in kept})
            self.assertEqual(numbers, list(range(numbers[0], numbers[-1] + 1)))
            if any([number is not None for number in fixed]):
                self.assertEqual(low, None if numbers[0] < -11 else numbers[0])
                self.assertEqual(high, None if numbers[-1] > 11 else numbers[-1])
            else:
                self.assertEqual((low, high), (None, None))
        lows = tuple([setting[0] for setting in ranges])
        highs = tuple([setting[1] for setting in ranges])
        if None not in lows:
            self.assertTrue(keeps(rows, lows))
        if None not in highs:
            self.assertTrue(keeps(rows, highs))

    def test_one_after_the_other(self):
        draw = random.Random(4)
        for _ in range(200):
            rows = random_rows(draw, 4, -5, 1)
            if bounds.ring_in(rows) is not None:
                continue
            fixed = [None] * 4
            for at in draw.sample(range(4), 4):
                low, high = solving.number_ranges(rows, tuple(fixed))[at]
                low = (-9 if high is None else high - 9) if low is None else low
                fixed[at] = draw.choice((low, low + 9 if high is None else high))
            self.assertTrue(keeps(rows, fixed))

    def test_great(self):
        draw = random.Random(5)
        big = 10 ** 300
        heights = [draw.randint(-big, big) for _ in range(16)]
        rows = tuple([tuple([heights[j] - heights[i] - draw.randint(0, big) for j in range(16)]) for i in range(16)])
        fixed = tuple([heights[at] if at % 5 == 0 else None for at in range(16)])
        found = solving.solution(rows, fixed)
        self.assertTrue(keeps(rows, found.setting))
        ranges = solving.number_ranges(rows, fixed)
        for (low, high), number in zip(ranges, found.setting):
            self.assertTrue(low <= number <= high)
        self.assertTrue(keeps(rows, [low for low, _ in ranges]))
        wrong = (*fixed[:15], heights[15] + 10 * big)
        self.assertIs(solving.is_solution(rows, wrong, solving.solution(rows, wrong)), True)
        self.assertIsInstance(solving.solution(rows, wrong), Clash)


if __name__ == "__main__":
    unittest.main()
