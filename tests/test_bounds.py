import random
import unittest
from itertools import permutations, product

from heldalways import bounds
from heldalways.errors import Refused
from odd import ODD, STRANGE, resized, spoiled, told

RING = ((None, 3, None), (None, None, -2), (0, None, None))


def random_rows(draw, many, low, high, empty=0.4):
    return tuple([tuple([None if draw.random() < empty else draw.randint(low, high) for _ in range(many)])
                  for _ in range(many)])


def keeps(rows, setting):
    pairs = [(i, j) for i in range(len(rows)) for j in range(len(rows)) if rows[i][j] is not None]
    return all([setting[j] - setting[i] >= rows[i][j] for i, j in pairs])


def weight(rows, walk):
    entries = [rows[i][j] for i, j in zip(walk, walk[1:])]
    return None if None in entries else sum(entries)


def all_walks(rows, arcs):
    """All point walks with at most so many arcs, the shorter ones first."""
    walks = [(i,) for i in range(len(rows))]
    found = list(walks)
    for _ in range(arcs):
        walks = [(*walk, j) for walk in walks for j in range(len(rows)) if rows[walk[-1]][j] is not None]
        found += walks
    return found


def simple_walks(rows, one, other):
    """All walks that pass no point twice; from a point to itself that of one point."""
    if one == other:
        return [(one,)]
    rest = [at for at in range(len(rows)) if at not in (one, other)]
    walks = [(one, *middle, other) for many in range(len(rest) + 1) for middle in permutations(rest, many)]
    return [walk for walk in walks if weight(rows, walk) is not None]


def has_ring(rows):
    return any([weight(rows, walk) > 0 for walk in all_walks(rows, len(rows)) if walk[0] == walk[-1]])


class Point21(unittest.TestCase):
    def test_rows(self):
        big = 10 ** 300
        for value in ((), ((None,),), ((0,),), ((5, None), (-big, big)), ((None,) * 16,) * 16):
            self.assertIs(bounds.are_rows(value), True)
        for value in (((),), ((0, 0),), ((0,), (0,)), ((0, 0), (0,)), ((None,) * 17,) * 17, [[0]], ([0],), [(0,)],
                      ((0, 0), (0, True)), ((0, 0), (0.0, 0)), ((0, "0"), (0, 0))):
            self.assertIs(bounds.are_rows(value), False, told(value))
        for value in STRANGE + ["", "a", None, 0]:
            self.assertIs(bounds.are_rows(value), False)
        for value in [*spoiled(((0, None), (3, 4)), STRANGE + ["a"]), *resized(((0, None), (3, 4)))]:
            self.assertIs(bounds.are_rows(value), False, told(value))

    def test_settings(self):
        rows = ((0, 2, None), (None, -3, 4), (-9, None, None))
        self.assertIs(bounds.is_setting(rows, (0, 2, 6)), True)
        self.assertIs(bounds.is_setting(rows, (10 ** 99, 10 ** 99 + 4, 10 ** 99 + 9)), True)
        for value in ((0, 1, 6), (0, 2, 5), (0, 5, 10), (0, 2), (0, 2, 6, 0), [0, 2, 6], (0, 2, 6.0), (False, 2, 6)):
            self.assertIs(bounds.is_setting(rows, value), False, told(value))
        for value in [*ODD, *spoiled((0, 2, 6), STRANGE + [None, "a"])]:
            self.assertIs(bounds.is_setting(rows, value), False, told(value))
        self.assertIs(bounds.is_setting((), ()), True)
        self.assertIs(bounds.is_setting((), (0,)), False)
        self.assertIs(bounds.is_setting(((1,),), (5,)), False)
        self.assertIs(bounds.is_setting(((0,),), (5,)), True)
        self.assertIs(bounds.is_setting(((None,),), (5,)), True)

    def test_walks(self):
        rows = ((None, 3, None), (None, -1, -2), (0, None, None))
        for value in ((0,), (2,), (0, 1), (1, 1, 1), (0, 1, 1, 2, 0)):
            self.assertIs(bounds.is_point_walk(rows, value), True)
        for value in ((), (3,), (-1,), (0, 0), (0, 2), (1, 0), (2, 1), (0, 1, 0), [0, 1], (0, True), (False, 1), (0, 1.0)):
            self.assertIs(bounds.is_point_walk(rows, value), False, told(value))
        for value in [*STRANGE, *spoiled((0, 1, 2), STRANGE + [None, "a", 10 ** 400])]:
            self.assertIs(bounds.is_point_walk(rows, value), False, told(value))
        self.assertIs(bounds.is_point_walk((), ()), False)
        self.assertIs(bounds.is_point_walk((), (0,)), False)

    def test_rings(self):
        self.assertIs(bounds.is_point_ring(RING, (0, 1, 2, 0)), True)
        self.assertIs(bounds.is_point_ring(RING, (1, 2, 0, 1, 2, 0, 1)), True)
        for value in ((0,), (0, 1), (0, 1, 2), (), (0, 1, 2, 1), [0, 1, 2, 0], (False, 1, 2, 0)):
            self.assertIs(bounds.is_point_ring(RING, value), False, told(value))
        self.assertIs(bounds.is_point_ring(((0, 2), (-2, 1)), (0, 1, 0)), False)
        self.assertIs(bounds.is_point_ring(((0, 2), (-2, 1)), (0, 0)), False)
        self.assertIs(bounds.is_point_ring(((0, 2), (-2, 1)), (1, 1)), True)
        for value in [*ODD, *spoiled((0, 1, 2, 0), STRANGE + [None, "a", 10 ** 400])]:
            self.assertIs(bounds.is_point_ring(RING, value), False, told(value))


class Point22(unittest.TestCase):
    def test_examples(self):
        rows = ((None, 2, 4), (None, None, 3), (-6, None, 0))
        self.assertEqual(bounds.heaviest(rows), ((0, 2, 5), (-3, 0, 3), (-6, -4, 0)))
        self.assertEqual(bounds.heaviest_walk(rows, 0, 2), (0, 1, 2))
        self.assertIsNone(bounds.ring_in(rows))

    def test_small(self):
        self.assertEqual(bounds.heaviest(()), ())
        self.assertIsNone(bounds.ring_in(()))
        self.assertEqual(bounds.heaviest(((None,),)), ((0,),))
        self.assertEqual(bounds.heaviest(((-4,),)), ((0,),))
        self.assertIsNone(bounds.heaviest(((1,),)))
        self.assertEqual(bounds.ring_in(((1,),)), (0, 0))
        self.assertIsNone(bounds.ring_in(((0,),)))
        self.assertEqual(bounds.heaviest_walk(((-4,),), 0, 0), (0,))

    def refused_ring(self, rows, one, other):
        with self.assertRaises(Refused) as caught:
            bounds.heaviest_walk(rows, one, other)
        self.assertEqual(caught.exception.word, "ring")

    def test_rings(self):
        self.assertIsNone(bounds.heaviest(RING))
        self.assertEqual(len(bounds.ring_in(RING)), 4)
        apart = ((None, None, None), (None, 1, None), (None, None, None))
        self.assertIsNone(bounds.heaviest(apart))
        self.refused_ring(apart, 0, 2)
        self.refused_ring(apart, 0, 0)
        two_rings = ((None, 9, None, None), (None, None, 9, None), (9, None, None, 1), (None, None, 0, None))
        self.assertEqual(len(bounds.ring_in(two_rings)), 3)

    def test_fewest_points(self):
        rows = ((None, 1, 2, 3), (None, None, 1, 2), (None, None, None, 1), (None, None, None, None))
        self.assertEqual(bounds.heaviest_walk(rows, 0, 3), (0, 3))
        self.assertEqual(bounds.heaviest_walk(rows, 0, 2), (0, 2))
        self.assertIsNone(bounds.heaviest_walk(rows, 3, 0))
        zeros = ((0,) * 5,) * 5
        self.assertEqual(bounds.heaviest_walk(zeros, 1, 1), (1,))
        self.assertEqual(bounds.heaviest_walk(zeros, 1, 4), (1, 4))

    def test_by_trial(self):
        draw = random.Random(7)
        rings = 0
        for _ in range(400):
            many = draw.randrange(1, 5)
            rows = random_rows(draw, many, -6, 3)
            best = bounds.heaviest(rows)
            ring = bounds.ring_in(rows)
            if has_ring(rows):
                rings += 1
                self.assertIsNone(best)
                self.refused_ring(rows, 0, many - 1)
                self.assertTrue(bounds.is_point_ring(rows, ring))
                shorter = [walk for walk in all_walks(rows, len(ring) - 2)
                           if walk[0] == walk[-1] and weight(rows, walk) > 0]
                self.assertEqual(shorter, [])
                continue
            self.assertIsNone(ring)
            for one, other in product(range(many), repeat=2):
                walks = simple_walks(rows, one, other)
                found = bounds.heaviest_walk(rows, one, other)
                if not walks:
                    self.assertIsNone(best[one][other])
                    self.assertIsNone(found)
                    continue
                top = max([weight(rows, walk) for walk in walks])
                self.assertEqual(best[one][other], top)
                self.assertTrue(bounds.is_point_walk(rows, found))
                self.assertEqual((found[0], found[-1], weight(rows, found)), (one, other, top))
                fewest = min([len(walk) for walk in walks if weight(rows, walk) == top])
                self.assertEqual(len(found), fewest)
        self.assertTrue(50 < rings < 350, rings)

    def test_settings_by_trial(self):
        draw = random.Random(8)
        for _ in range(150):
            rows = random_rows(draw, 3, -3, 2)
            span = list(product((0,), range(-12, 13), range(-12, 13)))
            kept = [setting for setting in span if keeps(rows, setting)]
            best = bounds.heaviest(rows)
            self.assertEqual(best is None, bounds.ring_in(rows) is not None)
            self.assertEqual(kept == [], best is None)
            if best is None:
                continue
            self.assertEqual(kept, [setting for setting in span if keeps(best, setting)])
            self.assertEqual(bounds.heaviest(best), best)
            for one, other in product(range(3), repeat=2):
                least = min([setting[other] - setting[one] for setting in kept])
                if best[one][other] is None:
                    self.assertLessEqual(least, -10)
                else:
                    self.assertEqual(least, best[one][other])

    def test_the_same_settings(self):
        draw = random.Random(9)
        span = list(product((0,), range(-6, 7), range(-6, 7)))
        alike = {}
        for _ in range(500):
            best = bounds.heaviest(random_rows(draw, 3, -2, 1, 0.2))
            if best is not None:
                kept = tuple([setting for setting in span if keeps(best, setting)])
                self.assertEqual(alike.setdefault(kept, best), best)
        self.assertLess(len(alike), 400)

    def test_great(self):
        draw = random.Random(10)
        big = 10 ** 400
        for empty in (0.0, 0.5, 0.8):
            rows = random_rows(draw, 16, -big, big, empty)
            ring = bounds.ring_in(rows)
            self.assertEqual(ring is None, bounds.heaviest(rows) is not None)
            self.assertTrue(ring is None or bounds.is_point_ring(rows, ring))
            heights = [draw.randint(-big, big) for _ in range(16)]
            calm = tuple([tuple([None if entry is None else heights[j] - heights[i] - abs(entry)
                                 for j, entry in enumerate(row)]) for i, row in enumerate(rows)])
            best = bounds.heaviest(calm)
            self.assertIsNone(bounds.ring_in(calm))
            self.assertTrue(keeps(best, heights))
            for one, other in product(range(16), repeat=2):
                walk = bounds.heaviest_walk(calm, one, other)
                self.assertEqual(None if walk is None else weight(calm, walk), best[one][other])

    def test_long_ring(self):
        rows = tuple([tuple([(1 if i == 15 else 0) if j == (i + 1) % 16 else None for j in range(16)])
                      for i in range(16)])
        self.assertEqual(len(bounds.ring_in(rows)), 17)
        self.assertIsNone(bounds.heaviest(rows))
        self.assertTrue(bounds.is_point_ring(rows, bounds.ring_in(rows)))


if __name__ == "__main__":
    unittest.main()
