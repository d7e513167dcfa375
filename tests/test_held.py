import random
import unittest
from itertools import product

from heldalways import held
from heldalways.errors import InvalidNumber, Refused
from heldalways.tours import is_held_for, keeps_rows, layers
from heldalways.webs import Web
from helping import drifting_web, random_web
from odd import STRANGE, told
from test_tables import random_closed

TABLE = (((0, None, None), (None, 0, -1), (None, -1, 0)),)
TANK = Web(("level",), ("off", "on"), (("rain", 1, 1, (("rise", 1, 1, 1), ("now", 1, 0, -5))),))
FAR = 10 ** 400


def distance(one, other):
    return max([0] + [abs(first - last) for first, last in zip(one, other)])


def asked(rows, values, i, j):
    """What an entry asks for, by the words of point 52."""
    lack = rows[i][j] - ((0,) + values)[j] + ((0,) + values)[i]
    return lack if 0 in (i, j) else -(-lack // 2)


class Point52(unittest.TestCase):
    def refused(self, *told_values):
        for call in (held.say_ranges, held.some_held):
            with self.assertRaises(Refused) as caught:
                call(*told_values)
            self.assertEqual(caught.exception.word, "said")

    def test_examples(self):
        self.assertEqual(held.say_ranges(TABLE, 0, (4, None)), ((4, 4), (3, 5)))
        self.assertEqual((held.held_distance(TABLE, 0, (0, 6)), held.far_pair(TABLE, 0, (0, 6))), (3, (2, 1)))

    def test_said(self):
        self.assertEqual(held.say_ranges(TABLE, 0), ((None, None), (None, None)))
        self.assertEqual(held.say_ranges(TABLE, 0, None), ((None, None), (None, None)))
        self.assertEqual(held.say_ranges(TABLE, 0, said=(None, None)), ((None, None), (None, None)))
        self.assertEqual(held.some_held(TABLE, 0, said=(FAR, FAR + 1)), (FAR, FAR + 1))
        self.assertEqual(held.some_held((None, ((0,),)), 1), ())
        self.assertEqual(held.say_ranges((None, ((0,),)), 1, ()), ())
        self.refused(TABLE, 0, (4, 6))
        self.refused((((0, 2), (-5, 0)),), 0, (1,))
        self.refused((((0, 2), (-5, 0)),), 0, (6,))
        self.assertEqual(held.say_ranges((((0, 2), (-5, 0)),), 0), ((2, 5),))
        self.assertEqual(held.say_ranges((((0, None), (-5, 0)),), 0), ((None, 5),))
        self.assertEqual(held.say_ranges((((0, 2), (None, 0)),), 0), ((2, None),))

    def test_said_by_trial(self):
        draw = random.Random(1)
        refusals = 0
        for _ in range(200):
            rows = random_closed(draw, 2, -4, 2)
            said = tuple([draw.choice((None, draw.randint(-5, 5))) for _ in range(2)])
            spans = [range(-25, 26) if number is None else (number,) for number in said]
            right = [values for values in product(*spans) if keeps_rows(rows, values)]
            if not right:
                refusals += 1
                self.refused((None, rows), 1, said)
                continue
            self.assertIn(held.some_held((None, rows), 1, said), right)
            for place, (low, high) in enumerate(held.say_ranges((None, rows), 1, said)):
                numbers = sorted({values[place] for values in right})
                self.assertEqual(numbers, list(range(numbers[0], numbers[-1] + 1)))
                self.assertEqual((low, high), (None if numbers[0] < -15 else numbers[0], None if numbers[-1] > 15 else numbers[-1]))
        self.assertGreater(refusals, 15)

    def test_distances(self):
        tank = (((0, 2), (-5, 0)),)
        self.assertEqual([held.held_distance(tank, 0, (level,)) for level in (-1, 1, 2, 5, 6, 9)], [3, 1, 0, 0, 1, 4])
        self.assertEqual([held.near_held(tank, 0, (level,)) for level in (-1, 1, 2, 5, 6, 9)], [(2,), (2,), (2,), (5,), (5,), (5,)])
        self.assertEqual([held.far_pair(tank, 0, (level,)) for level in (-1, 2, 5, 6)], [(0, 1), None, None, (1, 0)])
        self.assertEqual(held.held_distance((((0,),),), 0, ()), 0)
        self.assertEqual(held.near_held((((0,),),), 0, ()), ())
        self.assertIsNone(held.far_pair((((0,),),), 0, ()))
        # Two may each go half of the way, rounded up.
        self.assertEqual([held.held_distance(TABLE, 0, (0, level)) for level in (1, 2, 3, 4)], [0, 1, 1, 2])
        self.assertEqual(held.held_distance(TABLE, 0, (0, FAR)), FAR // 2)
        # The least of two pairs that ask for as much.
        self.assertEqual(held.far_pair((((0, 1, 1), (None, 0, None), (None, None, 0)),), 0, (0, 0)), (0, 1))
        self.assertEqual(held.far_pair((((0, 1, 2), (-9, 0, 4), (None, None, 0)),), 0, (0, 0)), (0, 2))

    def test_distances_by_trial(self):
        draw = random.Random(2)
        far = 0
        for _ in range(400):
            many = draw.choice((1, 2, 3))
            rows = random_closed(draw, many, -3, 3)
            values = tuple([draw.randint(-6, 6) for _ in range(many)])
            least = held.held_distance((rows,), 0, values)
            for by in range(least + 1):
                near = any([keeps_rows(rows, other) for other in product(*[range(number - by, number + by + 1) for number in values])])
                self.assertEqual(near, by == least)
            some = held.near_held((rows,), 0, values)
            self.assertTrue(keeps_rows(rows, some))
            self.assertEqual(distance(values, some), least)
            pairs = [(i, j) for i in range(many + 1) for j in range(many + 1) if rows[i][j] is not None]
            self.assertEqual(least, max([0] + [asked(rows, values, i, j) for i, j in pairs]))
            pair = None if least == 0 else min([(i, j) for i, j in pairs if asked(rows, values, i, j) == least])
            self.assertEqual(held.far_pair((rows,), 0, values), pair)
            far += pair is not None and 0 not in pair
        self.assertGreater(far, 20)

    def test_great(self):
        exact = (tuple([tuple([FAR * (j - i) for j in range(7)]) for i in range(7)]),) * 8
        self.assertEqual(held.near_held(exact, 7, (0,) * 6), tuple([FAR * at for at in range(1, 7)]))
        self.assertEqual(held.held_distance(exact, 7, (0,) * 6), 6 * FAR)
        self.assertEqual(held.far_pair(exact, 7, (0,) * 6), (0, 6))
        self.assertEqual(held.say_ranges(exact, 7)[5], (6 * FAR, 6 * FAR))


class Point55Ranges(unittest.TestCase):
    def test_ranges(self):
        self.assertEqual(held.held_ranges(TANK, 1, 3), (((None, None),), ((None, 4),), ((None, 3),), ((None, 2),)))
        self.assertEqual(held.held_ranges(TANK, 0, 2), (((None, None),),) * 3)
        self.assertEqual(held.held_ranges(TANK, 0, most=0), (((None, None),),))
        lost = Web(("x",), ("a", "b"), (("m", 0, 1, ()), ("n", 1, 1, (("now", 0, 0, 1),))))
        self.assertEqual(held.held_ranges(lost, 0, 3), (((None, None),), ((None, None),), None, None))
        self.assertEqual(held.held_ranges(Web((), ("a",), ()), 0, 1), ((), ()))
        fall = Web(("x",), ("a",), (("m", 0, 0, (("fall", 1, 1, 2), ("now", 0, 1, -3))),))
        self.assertEqual(held.held_ranges(fall, 0, 2), (((None, None),), ((-1, None),), ((1, None),)))

    def test_by_trial(self):
        draw = random.Random(3)
        for _ in range(60):
            web = random_web(draw, 2, 2, 3, 3, -3, 1)
            for state, most in ((0, 1), (1, 2), (0, 3)):
                ranges = held.held_ranges(web, state, 4)[most]
                rows = layers(web, most)[most][state]
                values = [] if rows is None else [one for one in product(range(-20, 21), repeat=2) if keeps_rows(rows, one)]
                if not values:
                    self.assertIsNone(ranges)
                    continue
                for place, (low, high) in enumerate(ranges):
                    numbers = [one[place] for one in values]
                    self.assertEqual((low, high), (None if min(numbers) == -20 else min(numbers), None if max(numbers) == 20 else max(numbers)))
                    self.assertIs(is_held_for(web, state, values[0], most), True)
                # What is held for more moves is held for fewer.
                for one, other in zip(held.held_ranges(web, state, 4)[1:], held.held_ranges(web, state, 4)):
                    for (low, high), (least, greatest) in zip(one or (), other or ()):
                        self.assertTrue((least is None or low is not None and low >= least)
                                        and (greatest is None or high is not None and high <= greatest))

    def test_wrong_most(self):
        for value in STRANGE + [None, -1, 501, 10 ** 400]:
            with self.assertRaises(InvalidNumber, msg=told(value)) as caught:
                held.held_ranges(TANK, 0, value)
            self.assertEqual(caught.exception.word, "most")
        self.assertEqual(len(held.held_ranges(drifting_web(), 3, 500)), 501)


if __name__ == "__main__":
    unittest.main()
