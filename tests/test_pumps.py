import random
import unittest

from heldalways import pumps
from heldalways.excursions import are_items
from heldalways.pumps import Pump, Ring
from heldalways.tourpapers import best_items, first_ring
from heldalways.webs import Web
from helping import drifting_web, random_items, random_web
from odd import ODD, STRANGE, resized, spoiled, told

GROUND = ("ground", 0)
KEEP = (("now", 0, 1, 0), ("now", 1, 0, -5))
TANK = Web(("level",), ("wet",), (("rain", 0, 0, KEEP + (("rise", 1, 1, 1),)),))
DAY = (0, 1, 0, 1, -4, 0, (("rule", 2), ("rule", 1), GROUND))
DAYS = (0, 1, 0, 2, -3, 0, (("rule", 2), ("tour", 0), GROUND))
RAINS = Pump((DAY, DAYS), 1, 0)


def nested(items, outer):
    """The numbers of all items that are nested in one."""
    found = set()
    for word, number in items[outer][6]:
        if word == "tour":
            found |= {number} | nested(items, number)
    return found


def days(many):
    """Items of the tank, each made of the one before."""
    items = [DAY]
    for at in range(many - 1):
        items.append((0, 1, 0, at + 2, at - 3, 0, (("rule", 2), ("tour", at), GROUND)))
    return tuple(items)


class Point32(unittest.TestCase):
    def test_nested(self):
        items = days(4) + (DAY,)
        self.assertEqual([[pumps.is_nested(items, outer, inner) for inner in range(5)] for outer in range(5)],
                         [[False] * 5, [True] + [False] * 4, [True, True] + [False] * 3, [True] * 3 + [False] * 2, [False] * 5])

    def test_nests(self):
        self.assertEqual([pumps.nest_of(days(4), at) for at in range(4)], [(0,), (1, 0), (2, 1, 0), (3, 2, 1, 0)])

    def test_by_trial(self):
        draw = random.Random(1)
        deep = 0
        for _ in range(150):
            web = random_web(draw, 2, 2, 3, 4, -3, 2)
            items = random_items(draw, web, 14)
            self.assertIs(are_items(web, items), True)
            for outer in range(len(items)):
                inside = nested(items, outer)
                self.assertEqual([pumps.is_nested(items, outer, inner) for inner in range(len(items))],
                                 [inner in inside for inner in range(len(items))])
                nest = pumps.nest_of(items, outer)
                self.assertEqual((len(nest), nest[0]), (items[outer][3], outer))
                self.assertTrue(all([("tour", inner) in items[one][6] for one, inner in zip(nest, nest[1:])]))
                deep += len(nest) > 2
        self.assertGreater(deep, 100)

    def test_great(self):
        items = days(5000)
        self.assertIs(pumps.is_nested(items, 4999, 0), True)
        self.assertIs(pumps.is_nested(items, 0, 4999), False)
        self.assertEqual(pumps.nest_of(items, 4999), tuple(range(4999, -1, -1)))


class Point33(unittest.TestCase):
    def test_classes(self):
        pump = Pump(excursions=1, outer=[], inner=None)
        self.assertEqual((pump.excursions, pump.outer, pump.inner), (1, [], None))
        ring = Ring(excursions="x", state=1, move=2, begin=3, steps=4)
        self.assertEqual((ring.excursions, ring.state, ring.move, ring.begin, ring.steps), ("x", 1, 2, 3, 4))

    def test_example(self):
        self.assertEqual((pumps.is_pump(TANK, RAINS), pumps.pump_gain(RAINS)), (True, 1))
        self.assertEqual(pumps.pump_gain(Pump(days(9), 7, 2)), 5)

    def test_wrong_pumps(self):
        for excursions, outer, inner in (((DAY, DAYS), 0, 1), ((DAY, DAYS), 1, 1), ((DAY, DAYS), 0, 0), ((DAY, DAYS), 1, 2), ((DAY, DAYS), 2, 0),
                                         ((DAY, DAYS), 1, -2), ([DAY, DAYS], 1, 0), ((DAY, DAYS), True, 0), ((DAY, DAYS), 1, False),
                                         ((DAY, DAY, DAYS), 2, 1), ((), 0, 0), ((DAY, DAYS[:6]), 1, 0)):
            self.assertIs(pumps.is_pump(TANK, Pump(excursions, outer, inner)), False)
        # Other labels, and no greater weight.
        still = Web(("level",), ("wet",), (("m", 0, 0, KEEP + (("rise", 1, 1, 0),)),))
        same = (0, 1, 0, 1, -5, 0, (("rule", 2), ("rule", 1), GROUND))
        again = (0, 1, 0, 2, -5, 0, (("rule", 2), ("tour", 0), GROUND))
        self.assertIs(are_items(still, (same, again)), True)
        self.assertIs(pumps.is_pump(still, Pump((same, again), 1, 0)), False)
        ground = (0, 0, 0, 1, 0, 0, (GROUND, GROUND))
        beside = (0, 1, 0, 2, -4, 0, (("rule", 2), ("rule", 1), ("tour", 0), GROUND))
        self.assertIs(are_items(TANK, (ground, beside)), True)
        self.assertIs(pumps.is_pump(TANK, Pump((ground, beside), 1, 0)), False)

    def test_any_value(self):
        for value in [*ODD, ((DAY, DAYS), 1, 0), Ring((DAY, DAYS), 0, None, 0, ())]:
            self.assertIs(pumps.is_pump(TANK, value), False, told(value))
        for value in [*ODD, RAINS]:
            self.assertIs(pumps.is_ring_paper(TANK, value), False)
            self.assertIs(pumps.is_pump(TANK, Pump(value, 1, 0)), False)
            self.assertIs(pumps.is_pump(TANK, Pump((DAY, DAYS), value, 0)), told(value) == "1")
            self.assertIs(pumps.is_pump(TANK, Pump((DAY, DAYS), 1, value)), told(value) == "0")
        for wrong in [*spoiled((DAY, DAYS), STRANGE + [None, 9]), *resized((DAY, DAYS))]:
            self.assertIs(pumps.is_pump(TANK, Pump(wrong, 1, 0)), False, told(wrong))

    def test_ring_papers(self):
        web = Web(("x",), ("a", "b"), (("m", 0, 1, (("now", 0, 1, 4), ("now", 1, 0, -3))),))
        right = ((), 1, 0, 0, (("rule", 0), ("rule", 1)))
        self.assertIs(pumps.is_ring_paper(web, Ring(*right)), True)
        for place, others in enumerate((((0,), [], None), (0, 2, True, None), (1, None, False), (1, 2, False, None), ((), (("rule", 0),), []))):
            for other in others:
                self.assertIs(pumps.is_ring_paper(web, Ring(*right[:place], other, *right[place + 1:])), False, (place, other))
            for value in ODD:
                if told(value) != told(right[place]):
                    self.assertIs(pumps.is_ring_paper(web, Ring(*right[:place], value, *right[place + 1:])), False, (place, told(value)))
        for value in [*ODD, right, Pump((), 0, 0)]:
            self.assertIs(pumps.is_ring_paper(web, value), False, told(value))
        draw = random.Random(2)
        rings = 0
        for _ in range(100):
            web = random_web(draw, 2, 2, 3, 4, -3, 2)
            ring = first_ring(web, 0, 5)
            if ring is not None:
                rings += 1
                self.assertIs(pumps.is_ring_paper(web, Ring(*ring)), True)
        self.assertGreater(rings, 20)

    def test_pump_in(self):
        found = pumps.pump_in((DAY, DAYS))
        self.assertIs(pumps.is_pump(TANK, found), True)
        self.assertIsNone(pumps.pump_in((DAY,)))
        self.assertIsNone(pumps.pump_in(()))
        # Heavier, but not made of it.
        other = (0, 1, 0, 2, -3, 0, (("rule", 2), ("tour", 1), GROUND))
        light = Web(("level",), ("wet",), (("rain", 0, 0, KEEP + (("rise", 1, 1, 1), ("rise", 1, 1, -1))),))
        weak = (0, 1, 0, 1, -6, 0, (("rule", 3), ("rule", 1), GROUND))
        self.assertIs(are_items(light, (DAY, weak)), True)
        self.assertIsNone(pumps.pump_in((DAY, weak)))
        self.assertIsNone(pumps.pump_in((weak, DAY)))
        self.assertIs(pumps.is_pump(light, pumps.pump_in((weak, DAY, other))), True)

    def test_pump_in_beside_lighter_ones(self):
        # Nested in the outer one is a lighter item with the same beginning and another end, too.
        web = Web(("x", "y"), ("a",), (("m", 0, 0, (("rise", 1, 1, 1), ("fall", 1, 1, 0), ("fall", 2, 1, -50), ("now", 2, 1, 50))),))
        inner = (0, 1, 1, 1, 1, 0, (("rule", 0), ("rule", 1)))
        light = (0, 1, 2, 2, -48, 0, (("rule", 0), ("tour", 0), ("rule", 2)))
        outer = (0, 1, 1, 3, 4, 0, (("rule", 0), ("tour", 0), ("tour", 0), ("tour", 1), ("rule", 3), ("rule", 1)))
        items = (inner, light, (*outer[:4], 5, *outer[5:]))
        self.assertIs(are_items(web, items), True)
        self.assertIs(pumps.is_pump(web, Pump(items, 2, 0)), True)
        self.assertIs(pumps.is_pump(web, pumps.pump_in(items)), True)

    def test_pump_in_by_trial(self):
        draw = random.Random(3)
        some, none = 0, 0
        for _ in range(300):
            web = random_web(draw, draw.choice((1, 2)), 2, 3, 4, -3, 2)
            items = random_items(draw, web, draw.choice((5, 10, 20)))
            right = [(outer, inner) for outer in range(len(items)) for inner in range(len(items))
                     if pumps.is_pump(web, Pump(items, outer, inner))]
            inside = [(outer, inner) for outer in range(len(items)) for inner in nested(items, outer)
                      if items[outer][:3] == items[inner][:3] and items[outer][4] > items[inner][4]]
            self.assertEqual(sorted(right), sorted(inside))
            found = pumps.pump_in(items)
            self.assertEqual(found is None, right == [])
            if found is not None:
                self.assertIs(pumps.is_pump(web, found), True)
            some += found is not None
            none += found is None
        self.assertTrue(some > 30 and none > 30, (some, none))

    def test_great(self):
        self.assertIs(pumps.is_pump(TANK, pumps.pump_in(days(5000))), True)
        still = [(0, 1, 0, 1, -5, 0, (("rule", 2), ("rule", 1), GROUND))]
        for at in range(5000):
            still.append((0, 1, 0, at + 2, -5, 0, (("rule", 2), ("tour", at), GROUND)))
        self.assertIsNone(pumps.pump_in(still))
        items = best_items(drifting_web(), 300)[0]
        self.assertIs(pumps.is_pump(drifting_web(), pumps.pump_in(items)), True)


if __name__ == "__main__":
    unittest.main()
