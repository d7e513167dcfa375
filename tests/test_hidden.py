import random
import unittest
from itertools import combinations, product

from heldalways import hidden
from heldalways.bounds import heaviest, ring_in
from heldalways.errors import Refused
from test_bounds import RING, keeps, random_rows


class Point24(unittest.TestCase):
    def refused(self, call, *told):
        with self.assertRaises(Refused) as caught:
            call(*told)
        self.assertEqual(caught.exception.word, "ring")

    def test_without_point(self):
        rows = ((1, 2, None), (5, 0, 7), (None, -3, 4))
        self.assertEqual(hidden.without_point(rows, 1), ((7, 9), (2, 4)))
        self.assertEqual(hidden.without_point(((3, 4), (None, 0)), 1), ((3,),))
        self.assertEqual(hidden.without_point(((None, 4), (1, None)), 1), ((5,),))
        self.assertEqual(hidden.without_point(((None,),), 0), ())
        self.assertEqual(hidden.without_point(((1, 2), (None, -5)), 1), ((1,),))
        self.refused(hidden.without_point, rows, 0)
        self.refused(hidden.without_point, ((1,),), 0)
        # A ring elsewhere does not matter.
        self.assertEqual(hidden.without_point(((0, 0), (0, 5)), 0), ((5,),))

    def test_without_point_by_trial(self):
        draw = random.Random(1)
        for _ in range(120):
            rows = random_rows(draw, 3, -4, 3)
            for point in range(3):
                if rows[point][point] is not None and rows[point][point] > 0:
                    self.refused(hidden.without_point, rows, point)
                    continue
                fewer = hidden.without_point(rows, point)
                for others in product(range(-5, 6), repeat=2):
                    wholes = [(*others[:point], number, *others[point:]) for number in range(-10, 11)]
                    self.assertEqual(keeps(fewer, others), any([keeps(rows, setting) for setting in wholes]))

    def test_seen_rows(self):
        rows = ((None, 2, 4), (None, None, 3), (-6, None, 0))
        self.assertEqual(hidden.seen_rows(rows, (0, 2)), ((0, 5), (-6, 0)))
        self.assertEqual(hidden.seen_rows(rows, (1,)), ((0,),))
        self.assertEqual(hidden.seen_rows(rows, ()), ())
        self.assertEqual(hidden.seen_rows(rows, (0, 1, 2)), heaviest(rows))
        self.refused(hidden.seen_rows, RING, ())
        self.refused(hidden.seen_rows, ((0, None), (None, 1)), (0,))

    def test_left_out_in_any_sequence(self):
        draw = random.Random(2)
        for _ in range(200):
            rows = random_rows(draw, 5, -6, 2)
            if ring_in(rows) is not None:
                self.refused(hidden.seen_rows, rows, (0, 1))
                continue
            for points in combinations(range(5), draw.randrange(6)):
                left, names = rows, list(range(5))
                for name in draw.sample([at for at in range(5) if at not in points], 5 - len(points)):
                    left = hidden.without_point(left, names.index(name))
                    names.remove(name)
                self.assertEqual(heaviest(left), hidden.seen_rows(rows, points))

    def test_both_and_either(self):
        one, other = ((0, 3), (None, -2)), ((None, 1), (4, -5))
        self.assertEqual(hidden.both_rows(one, other), ((0, 3), (4, -2)))
        self.refused(hidden.either_rows, one, other)
        self.assertEqual(hidden.either_rows(((0, 3), (None, -2)), ((None, 1), (-4, -5))), ((0, 1), (None, 0)))
        self.assertEqual(hidden.both_rows((), ()), ())
        self.assertEqual(hidden.either_rows((), ()), ())
        self.refused(hidden.either_rows, ((0,),), ((1,),))
        self.refused(hidden.either_rows, ((1,),), ((0,),))
        self.assertEqual(hidden.both_rows(((1,),), ((0,),)), ((1,),))

    def test_both_and_either_by_trial(self):
        draw = random.Random(3)
        span = list(product((0,), range(-12, 13), range(-12, 13)))
        for _ in range(80):
            one, other = random_rows(draw, 3, -4, 1), random_rows(draw, 3, -4, 1)
            both = hidden.both_rows(one, other)
            self.assertEqual([setting for setting in span if keeps(both, setting)],
                             [setting for setting in span if keeps(one, setting) and keeps(other, setting)])
            if ring_in(one) is not None or ring_in(other) is not None:
                self.refused(hidden.either_rows, one, other)
                continue
            either = hidden.either_rows(one, other)
            kept = [setting for setting in span if keeps(one, setting) or keeps(other, setting)]
            for i, j in product(range(3), repeat=2):
                least = min([setting[j] - setting[i] for setting in kept])
                self.assertEqual(either[i][j], None if least < -9 else least)

    def test_great(self):
        draw = random.Random(4)
        big = 10 ** 300
        heights = [draw.randint(-big, big) for _ in range(16)]
        rows = tuple([tuple([heights[j] - heights[i] - draw.randint(0, big) for j in range(16)]) for i in range(16)])
        best = heaviest(rows)
        self.assertEqual(hidden.seen_rows(rows, tuple(range(0, 16, 2))), tuple([row[::2] for row in best[::2]]))
        self.assertEqual(heaviest(hidden.without_point(rows, 15)), hidden.seen_rows(rows, tuple(range(15))))
        self.assertEqual(hidden.either_rows(rows, rows), best)
        self.assertEqual(hidden.both_rows(rows, best), best)


if __name__ == "__main__":
    unittest.main()
