import random
import unittest
from itertools import product

from heldalways import hulls
from heldalways.bounds import are_rows, heaviest, is_setting


class Point25(unittest.TestCase):
    def test_examples(self):
        settings = ((0, 2, 4), (0, 1, 5))
        self.assertEqual(hulls.hull_rows(settings), ((0, 1, 4), (-2, 0, 2), (-5, -4, 0)))
        self.assertEqual(hulls.mixture(settings, (((0, 0), (1, 0)), ((0, -1),))), (0, 1, 4))

    def test_hulls(self):
        self.assertEqual(hulls.hull_rows(((),)), ())
        self.assertEqual(hulls.hull_rows(((), ())), ())
        self.assertEqual(hulls.hull_rows(((7,),)), ((0,),))
        self.assertEqual(hulls.hull_rows(((1, 5),)), ((0, 4), (-4, 0)))
        self.assertEqual(hulls.hull_rows(((1, 5), (0, 9), (3, 3))), ((0, 0), (-9, 0)))

    def test_mixtures(self):
        settings = ((0, 10, 3), (5, 5, 5))
        self.assertEqual(hulls.mixture(settings, (((0, 0),),)), (0, 10, 3))
        self.assertEqual(hulls.mixture(settings, (((0, 4),),)), (4, 14, 7))
        self.assertEqual(hulls.mixture(settings, (((0, 0), (1, 0)),)), (0, 5, 3))
        self.assertEqual(hulls.mixture(settings, (((0, 0),), ((1, 0),))), (5, 10, 5))
        self.assertEqual(hulls.mixture(settings, (((0, 0), (1, -3), (1, 9)), ((1, -6),))), (0, 2, 2))
        self.assertEqual(hulls.mixture(((), ()), (((1, 5),),)), ())

    def check_picks(self, settings, value):
        picks = hulls.picks_of(settings, value)
        self.assertIsInstance(picks, tuple)
        self.assertTrue(len(picks) > 0)
        for pairs in picks:
            self.assertIsInstance(pairs, tuple)
            self.assertTrue(len(pairs) > 0)
            for number, shift in pairs:
                self.assertIn(number, range(len(settings)))
                self.assertIsInstance(shift, int)
            self.assertLessEqual(len(pairs), max(len(value), 1))
        self.assertLessEqual(len(picks), max(len(value), 1))
        self.assertEqual(hulls.mixture(settings, picks), value)

    def test_picks(self):
        self.check_picks(((),), ())
        self.check_picks(((), ()), ())
        self.check_picks(((3,),), (-8,))
        self.check_picks(((0, 2, 4), (0, 1, 5)), (0, 1, 4))
        self.check_picks(((0, 2, 4), (0, 1, 5)), (100, 102, 104))
        self.assertIsNone(hulls.picks_of(((0, 2, 4), (0, 1, 5)), (0, 0, 4)))
        self.assertIsNone(hulls.picks_of(((0, 1),), (0, 2)))

    def test_by_trial(self):
        draw = random.Random(1)
        for _ in range(60):
            many = draw.randrange(1, 4)
            settings = tuple([tuple([draw.randint(-3, 3) for _ in range(many)]) for _ in range(draw.randrange(1, 4))])
            rows = hulls.hull_rows(settings)
            self.assertTrue(are_rows(rows))
            self.assertEqual(heaviest(rows), rows)
            for i, j in product(range(many), repeat=2):
                self.assertEqual(rows[i][j], min([setting[j] - setting[i] for setting in settings]))
            for value in product(range(-3, 4), repeat=many):
                if is_setting(rows, value):
                    self.check_picks(settings, value)
                else:
                    self.assertIsNone(hulls.picks_of(settings, value))

    def test_mixtures_keep_the_hull(self):
        draw = random.Random(2)
        for _ in range(300):
            settings = tuple([tuple([draw.randint(-9, 9) for _ in range(4)]) for _ in range(3)])
            picks = tuple([tuple([(draw.randrange(3), draw.randint(-9, 9)) for _ in range(draw.randrange(1, 4))])
                           for _ in range(draw.randrange(1, 4))])
            self.assertTrue(is_setting(hulls.hull_rows(settings), hulls.mixture(settings, picks)))

    def test_great(self):
        draw = random.Random(3)
        settings = tuple([tuple([draw.randint(-10 ** 300, 10 ** 300) for _ in range(16)]) for _ in range(40)])
        picks = tuple([tuple([(number, number * 10 ** 299) for number in range(at, 40)]) for at in range(16)])
        self.check_picks(settings, hulls.mixture(settings, picks))
        self.assertIsNone(hulls.picks_of(settings[:1], settings[1]))


if __name__ == "__main__":
    unittest.main()
