import random
import unittest
from itertools import product

from heldalways import settle
from heldalways.excursions import is_ring
from heldalways.pumps import Pump, Ring, is_pump, is_ring_paper, pump_in
from heldalways.tables import is_table
from heldalways.tourpapers import best_items, first_ring
from heldalways.tours import is_held_for, keeps_rows, layers
from heldalways.webs import Web
from helping import NAMES, STATES, drifting_web, great_web, random_web

KEEP = (("now", 0, 1, 0), ("now", 1, 0, -5))
TANK = Web(("level",), ("wet",), (("rain", 0, 0, KEEP + (("rise", 1, 1, 1),)),))
CALM = Web(("level",), ("dry", "wet"), (("pour", 1, 0, KEEP + (("rise", 1, 1, 0),)), ("dry", 0, 1, KEEP)))


def some_webs(draw, wanted):
    """Webs of which some settle, some have rings, and some pumps."""
    for _ in range(wanted):
        many = draw.choice((0, 1, 1, 2, 2))
        yield random_web(draw, many, draw.choice((1, 2, 3)), draw.choice((2, 3, 4)), draw.choice((3, 5)), -3, draw.choice((0, 1, 2)))
        yield rising_web(draw, 2, 2, 3, 3)


def rising_web(draw, many, states, moves, rules):
    """A web in which values rise, with bounds above alone: it has no rings, but perhaps pumps."""
    told = []
    for at in range(moves):
        row = [("rise", draw.randint(1, many), draw.randint(1, many), draw.randint(-2, 1)) for _ in range(rules)]
        row += [("now", draw.randint(1, many), draw.randint(0, many), draw.randint(-9, -4)) for _ in range(2)]
        told.append(("m", draw.randrange(states), draw.randrange(states), tuple(row)))
    return Web(NAMES[:many], STATES[:states], tuple(told))


class Point32Depth(unittest.TestCase):
    def test_depth_bound(self):
        self.assertEqual(settle.depth_bound(TANK), 4)
        self.assertEqual(settle.depth_bound(Web((), STATES, ())), 8)
        self.assertEqual(settle.depth_bound(Web(NAMES, STATES, ())), 392)
        self.assertEqual(settle.depth_bound(Web(NAMES[:2], STATES[:3], ())), 27)


class Point36(unittest.TestCase):
    def test_example(self):
        self.assertIsNone(settle.settled_depth(TANK))
        self.assertIsInstance(settle.final_rows(TANK), (Pump, Ring))
        self.assertEqual(settle.final_rows(CALM), (((0, None), (None, 0)), ((0, None), (-5, 0))))
        self.assertEqual((settle.settled_depth(CALM), [settle.enough_moves(CALM, state) for state in (0, 1)]), (1, [0, 1]))
        self.assertIsNone(settle.enough_moves(TANK, 0))

    def test_no_moves(self):
        bare = Web(("x",), ("a", "b"), ())
        self.assertEqual((settle.settled_depth(bare), settle.final_rows(bare)), (0, (((0, None), (None, 0)),) * 2))
        self.assertEqual(settle.enough_moves(bare, 1), 0)

    def test_rings_and_pumps(self):
        now = Web(("x",), ("a", "b"), (("m", 0, 1, (("now", 1, 0, -3), ("now", 0, 1, 4))),))
        paper = settle.final_rows(now)
        self.assertIsInstance(paper, Ring)
        self.assertIs(is_ring_paper(now, paper), True)
        self.assertIsNone(settle.enough_moves(now, 1))
        # Rain without an end, but for no single move too much: a pump, and no ring.
        drop = Web(("x",), ("a",), (("m", 0, 0, (("rise", 1, 1, 1), ("now", 1, 0, -9))),))
        paper = settle.final_rows(drop)
        self.assertIsInstance(paper, Pump)
        self.assertIs(is_pump(drop, paper), True)
        self.assertIsNone(first_ring(drop, 0, 500))

    def test_nests_of_several_labels(self):
        # In the nest of the deep item labels with one beginning and several ends come one behind another.
        web = Web(("x", "y"), ("a", "b"), (
            ("m", 1, 1, (("fall", 1, 0, 1), ("fall", 2, 2, 1), ("fall", 2, 1, 0), ("rise", 2, 1, -1))),
            ("m", 0, 0, (("rise", 2, 2, 0), ("rise", 1, 1, -1), ("rise", 0, 0, -3), ("fall", 1, 1, -2)))))
        self.assertIs(is_pump(web, settle.final_rows(web)), True)

    def test_against_layers(self):
        draw = random.Random(1)
        counts = {"settled": 0, "ring": 0, "pump": 0}
        for web in some_webs(draw, 200):
            size = len(web.quantities)
            bound = len(web.states) * size * (size + 1)
            found = layers(web, 60)
            whole = [k for k in range(60) if found[k] == found[k + 1] and None not in found[k + 1]]
            depth = settle.settled_depth(web)
            final = settle.final_rows(web)
            self.assertEqual(depth, whole[0] if whole else None)
            if whole:
                counts["settled"] += 1
                self.assertLessEqual(depth, bound)
                self.assertEqual(final, found[depth])
                self.assertIs(is_table(web, final), True)
                # Neither a ring nor a pump is right.
                self.assertIsNone(pump_in(best_items(web, 9)[0]))
                self.assertEqual([first_ring(web, state, 40) for state in range(len(web.states))], [None] * len(web.states))
                for state in range(len(web.states)):
                    enough = [k for k in range(61) if found[k][state] == found[depth][state]]
                    self.assertEqual(settle.enough_moves(web, state), enough[0])
                continue
            self.assertEqual([settle.enough_moves(web, state) for state in range(len(web.states))], [None] * len(web.states))
            if isinstance(final, Ring):
                counts["ring"] += 1
                self.assertIs(is_ring_paper(web, final), True)
                self.assertIs(is_ring(web, final.excursions, final.state, final.move, final.begin, final.steps), True)
            else:
                counts["pump"] += 1
                self.assertIsInstance(final, Pump)
                self.assertIs(is_pump(web, final), True)
            # Without a pump some ring lies so deep that it is found.
            if any([None in layer for layer in found]):
                self.assertTrue(isinstance(final, Pump) or None in found[min(60, settle.depth_bound(web) + 1)])
        self.assertTrue(min(counts.values()) > 15, counts)

    def test_values_of_any_size(self):
        draw = random.Random(2)
        for web in some_webs(draw, 60):
            final = settle.final_rows(web)
            if isinstance(final, tuple) and len(web.quantities) == 2:
                for state, values in product(range(len(web.states)), product((-4, 0, 3), repeat=2)):
                    enough = settle.enough_moves(web, state)
                    held = keeps_rows(final[state], values)
                    self.assertEqual(is_held_for(web, state, values, enough), held)
                    self.assertEqual(is_held_for(web, state, values, 70), held)
                    if enough > 0:
                        self.assertNotEqual(layers(web, enough - 1)[enough - 1][state], final[state])

    def test_late(self):
        # The bound goes round by round through all states and quantities.
        rules = (("rise", 1, 2, 0), ("rise", 2, 3, 0), ("rise", 3, 4, 0), ("rise", 4, 5, 0), ("rise", 5, 6, 0), ("now", 6, 0, -9))
        web = Web(NAMES, STATES, tuple([("m", at, (at + 1) % 8, rules if at == 0 else tuple(
            [("rise", i, i, 0) for i in range(1, 7)])) for at in range(8)]))
        depth = settle.settled_depth(web)
        found = layers(web, 100)
        self.assertEqual(depth, [k for k in range(100) if found[k] == found[k + 1]][0])
        self.assertEqual(depth, 40)

    def test_great(self):
        draw = random.Random(3)
        for web in (drifting_web(), great_web(draw, -10 ** 6, 10 ** 6), great_web(draw, -5, 0), great_web(draw, -10 ** 6, -999990)):
            final = settle.final_rows(web)
            depth = settle.settled_depth(web)
            self.assertEqual(depth is None, isinstance(final, (Pump, Ring)))
            if depth is None:
                self.assertIs(is_pump(web, final) or is_ring_paper(web, final), True)
            self.assertEqual(settle.enough_moves(web, 3) is None, depth is None)
        self.assertIsInstance(settle.final_rows(drifting_web()), Pump)


if __name__ == "__main__":
    unittest.main()
