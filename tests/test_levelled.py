import random
import unittest

from heldalways import levelled
from heldalways.errors import InvalidNumber
from heldalways.excursions import are_items
from heldalways.pumps import Pump, Ring, is_pump, is_ring_paper, pump_gain, pump_in
from heldalways.settle import depth_bound
from heldalways.tourpapers import best_items, climb
from heldalways.tours import every_state
from heldalways.webs import Web
from helping import drifting_web, random_items, random_web
from odd import STRANGE, told
from test_pumps import DAY, DAYS, GROUND, KEEP, RAINS, TANK, days

STILL = Web(("level",), ("wet",), (("m", 0, 0, KEEP + (("rise", 1, 1, 0),)),))


def still_days(many):
    """Items that get deeper, but not heavier."""
    items = [(0, 1, 0, 1, -5, 0, (("rule", 2), ("rule", 1), GROUND))]
    for at in range(many - 1):
        items.append((0, 1, 0, at + 2, -5, 0, (("rule", 2), ("tour", at), GROUND)))
    return tuple(items)


class Point34(unittest.TestCase):
    def check(self, web, pump, times):
        found = levelled.pumped(pump, times)
        self.assertIs(are_items(web, found), True)
        self.assertEqual(found[-1][:3], pump.excursions[pump.outer][:3])
        self.assertEqual(found[-1][4], pump.excursions[pump.inner][4] + times * pump_gain(pump))
        self.assertLessEqual(len(found), len(pump.excursions) * (times + 1))

    def test_example(self):
        self.assertEqual(levelled.pumped(RAINS, 5)[-1][4], 1)
        self.assertEqual(levelled.pumped(RAINS, 0), (DAY,))
        self.assertEqual(levelled.pumped(RAINS, 1), (DAY, DAYS))
        self.assertEqual(levelled.pumped(RAINS, times=2)[-1], (0, 1, 0, 3, -2, 0, (("rule", 2), ("tour", 1), GROUND)))

    def test_pumps(self):
        self.check(TANK, Pump(days(9), 7, 2), 9)
        # The inner one is used twice, but put in once.
        double = Web(("level",), ("wet",), (("rain", 0, 0, KEEP + (("rise", 1, 1, 1), ("fall", 1, 1, 0))),))
        one = (0, 1, 1, 1, 1, 0, (("rule", 2), ("rule", 3)))
        two = (0, 1, 1, 2, 3, 0, (("rule", 2), ("tour", 0), ("tour", 0), ("rule", 3)))
        for times in range(6):
            self.check(double, Pump((one, two), 1, 0), times)
        draw = random.Random(1)
        checked = 0
        for _ in range(300):
            web = random_web(draw, draw.choice((1, 2)), 2, 3, 4, -3, 2)
            items = random_items(draw, web, 15)
            for outer in range(len(items)):
                for inner in range(outer):
                    if is_pump(web, Pump(items, outer, inner)):
                        self.check(web, Pump(items, outer, inner), draw.randrange(6))
                        checked += 1
        self.assertGreater(checked, 100)

    def test_wrong_times(self):
        for value in STRANGE + [None, -1, 1001, 10 ** 400, "1", (1,)]:
            with self.assertRaises(InvalidNumber, msg=told(value)) as caught:
                levelled.pumped(RAINS, value)
            self.assertEqual(caught.exception.word, "times")

    def test_rounds_above(self):
        self.assertEqual(levelled.rounds_above(RAINS, 0), 5)
        pump = Pump(days(9), 7, 0)
        for difference in [*range(-30, 30), 10 ** 400, -10 ** 400]:
            rounds = levelled.rounds_above(pump, difference)
            self.assertTrue(-4 + 7 * rounds > difference and (rounds == 0 or -4 + 7 * (rounds - 1) <= difference))

    def test_great(self):
        self.check(TANK, RAINS, 1000)
        self.check(TANK, Pump(days(200), 199, 3), 1000)
        items = best_items(drifting_web(), 200)[0]
        self.check(drifting_web(), pump_in(items), 1000)
        self.check(TANK, Pump(days(5000), 4999, 0), 3)


class Point35(unittest.TestCase):
    def check(self, web, items):
        """Whether what is made of items is right; returns whether it is a pump."""
        found = levelled.levelled(items)
        if isinstance(found, Pump):
            self.assertIs(is_pump(web, found), True)
            return True
        self.assertIs(are_items(web, found), True)
        self.assertEqual(found[-1][:3], items[-1][:3])
        self.assertGreaterEqual(found[-1][4], items[-1][4])
        self.assertLessEqual(found[-1][3], depth_bound(web))
        self.assertLessEqual(found[-1][3], len({item[:3] for item in items}))
        return False

    def test_levelled(self):
        self.assertIs(self.check(TANK, (DAY,)), False)
        self.assertIs(self.check(TANK, days(9)), True)
        self.assertIs(self.check(STILL, still_days(2)), False)
        self.assertEqual(levelled.levelled(still_days(9)), still_days(1))
        # The last one counts, whatever stands before it.
        self.assertIs(self.check(TANK, (DAY, (0, 0, 0, 1, 0, 0, (GROUND, GROUND)))), False)

    def test_by_trial(self):
        draw = random.Random(2)
        some, deeper = 0, 0
        for _ in range(500):
            web = random_web(draw, draw.choice((1, 1, 2)), 2, 3, 4, -3, draw.choice((0, 2)))
            items = random_items(draw, web, draw.choice((4, 10, 30)))
            if items:
                some += self.check(web, items)
                deeper += pump_in(items) is None and items[-1][3] > len({item[:3] for item in items})
        self.assertTrue(some > 30 and deeper > 30, (some, deeper))

    def test_rings(self):
        web = Web(("level",), ("dry", "wet"), (("m", 0, 1, (("now", 0, 1, 6),)), ("n", 1, 1, KEEP + (("rise", 1, 1, 0),))))
        items = tuple([(1, *item[1:5], 1, item[6]) for item in still_days(20)])
        ring = Ring(items, 1, 0, 0, (("rule", 0), ("tour", 19)))
        self.assertIs(is_ring_paper(web, ring), True)
        found = levelled.levelled_ring(ring)
        self.assertIs(is_ring_paper(web, found), True)
        self.assertEqual((found.state, found.move, found.begin, len(found.excursions)), (1, 0, 0, 1))
        self.assertEqual(found.steps, (("rule", 0), ("tour", 0)))
        rains = Web(("level",), ("dry", "wet"), (("m", 0, 1, (("now", 0, 1, 6),)), ("n", 1, 1, KEEP + (("rise", 1, 1, 1),))))
        items = tuple([(1, *item[1:5], 1, item[6]) for item in days(20)])
        ring = Ring(items, 1, 0, 0, (("rule", 0), ("tour", 19)))
        self.assertIs(is_ring_paper(rains, ring), True)
        self.assertIs(is_pump(rains, levelled.levelled_ring(ring)), True)

    def test_rings_by_trial(self):
        draw = random.Random(3)
        rings, found_pumps = 0, 0
        for _ in range(300):
            web = random_web(draw, 2, 2, 3, 4, -3, 2)
            for state, move, begin, steps in climb(web, 12, every_state(web))[2].values():
                ring = Ring(tuple(climb(web, 12, every_state(web))[0]), state, move, begin, steps)
                found = levelled.levelled_ring(ring)
                if isinstance(found, Pump):
                    found_pumps += 1
                    self.assertIs(is_pump(web, found), True)
                else:
                    rings += 1
                    self.assertIs(is_ring_paper(web, found), True)
                    self.assertEqual((found.state, found.move, found.begin), (state, move, begin))
                    self.assertLessEqual(max([0] + [item[3] for item in found.excursions]), depth_bound(web))
        self.assertTrue(rings > 50, (rings, found_pumps))

    def test_great(self):
        self.assertEqual(levelled.levelled(still_days(5000)), still_days(1))
        self.assertIs(self.check(TANK, days(5000)), True)
        items = best_items(drifting_web(), 150)[0]
        self.assertIs(is_pump(drifting_web(), levelled.levelled(items)), True)
        # Items that name two others each, all of them alike.
        calm = Web(("level",), ("wet",), (("m", 0, 0, (("rise", 1, 1, 0), ("fall", 1, 1, 0))),))
        items = [(0, 1, 1, 1, 0, 0, (("rule", 0), ("rule", 1)))]
        for at in range(3000):
            items.append((0, 1, 1, at + 2, 0, 0, (("rule", 0), ("tour", at), ("tour", at // 2), ("rule", 1))))
        self.assertIs(self.check(calm, tuple(items)), False)


if __name__ == "__main__":
    unittest.main()
