import random
import unittest
from itertools import product

from heldalways import faults
from heldalways.answers import move_rows
from heldalways.bounds import is_point_walk, walk_weight
from heldalways.faults import Fault
from heldalways.tables import is_table
from heldalways.tours import first_layer, layers
from heldalways.webs import Web
from helping import drifting_web, random_web
from odd import ODD, STRANGE, spoiled, told
from test_tables import BEST, LOOSE, TANK, WET, N, random_closed


class Point38(unittest.TestCase):
    def test_class(self):
        fault = Fault(move=2, walk=[1])
        self.assertEqual((fault.move, fault.walk), (2, [1]))

    def test_examples(self):
        self.assertEqual(faults.fault_of(WET, LOOSE).move, 2)
        self.assertIs(faults.is_fault(WET, LOOSE, Fault(2, (1, 2, 0))), True)
        self.assertIsNone(faults.fault_of(TANK, LOOSE))

    def test_walks(self):
        # Points: 0 the ground, 1 the old level, 2 the new one. RAIN asks for 1 more and at most 5.
        for walk in ((1, 2), (1, 2, 0, 2, 0), (2, 0), (0, 2, 0), (1,), (0,), (), (1, 0), (0, 1), (1, 2, 3), (1, 2, -1), [1, 2, 0], (1, 2, False), (2, 0, 2)):
            self.assertIs(faults.is_fault(WET, LOOSE, Fault(2, walk)), False, walk)
        for move in (0, 1, 3, -1, None, True, 2.0):
            self.assertIs(faults.is_fault(WET, LOOSE, Fault(move, (1, 2, 0))), False, move)
        # An entry that is not there is below all weights.
        steep = (((0, N), (N, 0)), ((0, N), (N, 0)))
        self.assertIs(faults.is_fault(TANK, steep, Fault(1, (1, 2, 0))), True)
        self.assertIs(faults.is_fault(TANK, BEST, Fault(1, (1, 2, 0))), False)
        # A ring of what is told at the end, from any point.
        ring = (BEST[0], ((0, 6), (-6, 0)))
        for walk in ((0, 2, 0), (2, 0, 2), (0, 2, 2, 0)):
            self.assertIs(faults.is_fault(TANK, ring, Fault(0, walk)), True, walk)
        self.assertIs(faults.is_fault(TANK, ring, Fault(0, (0, 2))), False)

    def test_ends_not_told(self):
        table = (BEST[0], None)
        self.assertIs(faults.is_fault(TANK, table, Fault(0, ())), True)
        self.assertEqual((faults.fault_of(TANK, table).move, faults.fault_of(TANK, table).walk), (0, ()))
        for walk in ((0,), [], None, (1, 2, 0), "", 0, False):
            self.assertIs(faults.is_fault(TANK, table, Fault(0, walk)), False, walk)
        self.assertIs(faults.is_fault(TANK, table, Fault(1, ())), False)
        self.assertIs(faults.is_fault(TANK, (None, None), Fault(0, ())), False)
        self.assertIsNone(faults.fault_of(TANK, (None, None)))

    def test_any_value(self):
        for value in [*ODD, (2, (1, 2, 0))]:
            self.assertIs(faults.is_fault(WET, LOOSE, value), False, told(value))
            self.assertIs(faults.is_fault(WET, LOOSE, Fault(value, (1, 2, 0))), False, told(value))
            self.assertIs(faults.is_fault(WET, LOOSE, Fault(2, value)), False, told(value))
            if told(value) != "()":
                self.assertIs(faults.is_fault(TANK, (BEST[0], None), Fault(0, value)), False, told(value))
        for walk in spoiled((1, 2, 0), STRANGE + [None, 7, ()]):
            self.assertIs(faults.is_fault(WET, LOOSE, Fault(2, walk)), False, told(walk))

    def test_right_tables_have_none(self):
        draw = random.Random(1)
        rights, walks, shown = 0, 0, 0
        for _ in range(500):
            many = draw.choice((0, 1, 2))
            web = random_web(draw, many, 2, 2, 3, -2, 1)
            table = tuple([draw.choice((None, random_closed(draw, many, -3, 2), random_closed(draw, many, -3, 2))) for _ in range(2)])
            fault = faults.fault_of(web, table)
            right = is_table(web, table)
            self.assertEqual(fault is None, right)
            rights += right
            if fault is not None:
                self.assertIs(faults.is_fault(web, table, fault), True)
                walks += fault.walk != ()
            for at, move in enumerate(web.moves):
                if right and table[move[1]] is not None and many < 2:
                    for size in range(5):
                        for walk in product(range(2 * many + 1), repeat=size):
                            self.assertIs(faults.is_fault(web, table, Fault(at, walk)), False)
                            shown += 1
        self.assertTrue(rights > 100 and walks > 100 and shown > 1000, (rights, walks, shown))

    def test_by_the_words(self):
        draw = random.Random(2)
        found = []
        for _ in range(150):
            web = random_web(draw, 1, 2, 2, 4, -2, 2)
            table = tuple([random_closed(draw, 1, -3, 2) for _ in range(2)])
            for at, (_, start, _, _) in enumerate(web.moves):
                rows = move_rows(web, table, at)
                for size in range(1, 5):
                    for walk in product(range(3), repeat=size):
                        weight = walk_weight(rows, walk) if is_point_walk(rows, walk) else None
                        ring = weight is not None and walk[0] == walk[-1] and size > 1 and weight > 0
                        more = weight is not None and max(walk[0], walk[-1]) < 2 and (
                            table[start][walk[0]][walk[-1]] is None or weight > table[start][walk[0]][walk[-1]])
                        found.append(ring or more)
                        self.assertIs(faults.is_fault(web, table, Fault(at, walk)), found[-1])
        self.assertTrue(500 < sum(found) < len(found) - 500, sum(found))

    def test_great(self):
        web = drifting_web()
        for table in (layers(web, 20)[20], first_layer(web)):
            fault = faults.fault_of(web, table)
            self.assertIs(faults.is_fault(web, table, fault), True)
        exact = (tuple([tuple([10 ** 500 * (j - i) for j in range(7)]) for i in range(7)]),) * 8
        self.assertIs(faults.is_fault(web, exact, faults.fault_of(web, exact)), True)


if __name__ == "__main__":
    unittest.main()
