import random
import unittest
from itertools import product

from heldalways import tables
from heldalways.tours import first_layer, is_held_for, keeps_rows, layers
from heldalways.webs import Web, reached, without_moves
from helping import NAMES, STATES, drifting_web, keeps, random_web
from odd import ODD, STRANGE, resized, spoiled, told
from test_answers import webs_and_tables

KEEP = (("now", 0, 1, 0), ("now", 1, 0, -5))
RAIN, HOLD = ("rain", 0, 0, KEEP + (("rise", 1, 1, 1),)), ("hold", 1, 0, KEEP + (("rise", 1, 1, 0),))
TANK = Web(("level",), ("dry", "wet"), (("pour", 0, 1, KEEP), HOLD))
WET = Web(("level",), ("dry", "wet"), (("pour", 0, 1, KEEP), HOLD, RAIN))
LOOSE = (((0, 0), (-5, 0)), ((0, 0), (-5, 0)))
BEST = (((0, None), (None, 0)), ((0, None), (-5, 0)))
N = None


def closed(rows):
    """Whether rows are closed, by the words of point 37."""
    points = range(len(rows))
    for i in points:
        if rows[i][i] != 0:
            return False
        for k, j in product(points, points):
            if rows[i][k] is not None and rows[k][j] is not None:
                if rows[i][j] is None or rows[i][j] < rows[i][k] + rows[k][j]:
                    return False
    return True


def random_closed(draw, many, low, high):
    """Closed rows that some values keep, not far from the ground."""
    while True:
        rows = [[0 if i == j else draw.choice((N, N, draw.randint(low, high))) for j in range(many + 1)] for i in range(many + 1)]
        for k, i, j in product(range(many + 1), repeat=3):
            if rows[i][k] is not None and rows[k][j] is not None:
                rows[i][j] = max(rows[i][k] + rows[k][j], -10 ** 9 if rows[i][j] is None else rows[i][j])
        if closed(rows):
            return tuple([tuple(row) for row in rows])


def right_by_trial(web, table, span):
    """Whether from all values of a span that keep the table some of a wider span are let that keep it."""
    wide = range(span[0] - 9, span[-1] + 10)
    many = len(web.quantities)
    for _, start, end, rules in web.moves:
        if table[start] is None:
            continue
        if table[end] is None:
            return False
        news = [new for new in product(wide, repeat=many) if keeps_rows(table[end], new)]
        for old in product(span, repeat=many):
            if keeps_rows(table[start], old) and not any([keeps(rules, old, new) for new in news]):
                return False
    return True


class Point37(unittest.TestCase):
    def test_examples(self):
        self.assertIs(tables.is_table(TANK, LOOSE), True)
        self.assertIs(tables.is_table(TANK, (LOOSE[0], ((0, 0), (-6, 0)))), False)
        self.assertIs(tables.is_table(TANK, BEST), True)

    def test_told_states(self):
        self.assertIs(tables.is_table(TANK, (None, None)), True)
        for table, move in (((None, BEST[1]), 1), ((BEST[0], None), 0)):
            self.assertIs(tables.is_table(TANK, table), False)
            self.assertEqual(tables.broken_move(TANK, table), move)
        lone = Web((), ("a", "b"), (("m", 0, 1, ()), ("n", 1, 1, (("now", 0, 0, 1),))))
        self.assertEqual([tables.is_table(lone, table) for table in ((None, None), (((0,),), None), (None, ((0,),)), (((0,),),) * 2)],
                         [True, False, False, False])
        self.assertEqual(tables.broken_move(lone, (None, ((0,),))), 1)
        self.assertEqual(tables.broken_move(lone, (((0,),), None)), 0)

    def test_broken_move(self):
        self.assertIsNone(tables.broken_move(TANK, LOOSE))
        self.assertEqual(tables.broken_move(WET, LOOSE), 2)
        self.assertEqual(tables.broken_move(TANK, (LOOSE[0], ((0, 0), (-6, 0)))), 1)
        self.assertEqual(tables.broken_move(Web(TANK.quantities, TANK.states, TANK.moves[::-1]), (LOOSE[0], ((0, 0), (-6, 0)))), 0)
        # None is below all integers: no excursion may ask for anything there.
        self.assertEqual(tables.broken_move(TANK, (BEST[0], ((0, N), (N, 0)))), 1)
        self.assertEqual(tables.broken_move(TANK, (BEST[0], ((0, -9), (-5, 0)))), None)
        # A ring of "now" rules and rows.
        self.assertEqual(tables.broken_move(TANK, (BEST[0], ((0, 6), (-6, 0)))), 0)

    def test_closed_rows(self):
        one = Web(("x", "y"), ("a",), ())
        for rows in (((0, N, N), (N, 0, N), (N, N, 0)), ((0, 1, 3), (-7, 0, 2), (-9, -8, 0)), ((0, 10 ** 400, N), (N, 0, N), (N, N, 0)),
                     ((0, 5, N), (-5, 0, N), (N, N, 0)), ((0, N, 1), (N, 0, N), (-4, N, 0))):
            self.assertTrue(closed(rows))
            self.assertIs(tables.is_table(one, (rows,)), True, told(rows))
        for rows in (((0, 1, 2), (-9, 0, 2), (-9, -8, 0)), ((0, 1, N), (N, 0, 2), (N, N, 0)), ((1, N, N), (N, 0, N), (N, N, 0)),
                     ((0, N, N), (N, N, N), (N, N, 0)), ((0, 5, N), (-4, 0, N), (N, N, 0)), ((0, N, N), (N, 0, N), (N, N, -1))):
            self.assertFalse(closed(rows))
            self.assertIs(tables.is_table(one, (rows,)), False, told(rows))
        draw = random.Random(1)
        found = []
        for _ in range(800):
            rows = tuple([tuple([0 if i == j and draw.random() < 0.95 else draw.choice((N, N, draw.randint(-4, 1))) for j in range(3)])
                          for i in range(3)])
            found.append(closed(rows))
            self.assertIs(tables.is_table(one, (rows,)), found[-1], rows)
        self.assertTrue(30 < sum(found) < 770, sum(found))

    def test_any_value(self):
        for value in ODD:
            self.assertIs(tables.is_table(TANK, value), told(value) == "(None, None)", told(value))
            self.assertIs(tables.is_table(TANK, (value, None)), False if value is not None else True, told(value))
        for wrong in [*spoiled(LOOSE, STRANGE + ["", 7]), *resized(LOOSE)]:
            self.assertIs(tables.is_table(TANK, wrong), False, told(wrong))
        self.assertIs(tables.is_table(TANK, (LOOSE[0], ((0, 0), (-5, False)))), False)
        self.assertIs(tables.is_table(Web((), ("a",), ()), (((0,),),)), True)
        self.assertIs(tables.is_table(Web((), ("a",), ()), (((),),)), False)
        self.assertIs(tables.is_table(Web((), ("a",), ()), ((),)), False)

    def test_right_by_trial(self):
        draw = random.Random(2)
        found = []
        for _ in range(500):
            many = draw.choice((1, 1, 1, 1, 1, 2))
            web = random_web(draw, many, 2, 2, 3, -3, 1)
            table = tuple([draw.choice((None, random_closed(draw, many, -3, 2), random_closed(draw, many, -3, 2))) for _ in range(2)])
            found.append(right_by_trial(web, table, (-11, *range(-8, 9), 11)))
            self.assertIs(tables.is_table(web, table), found[-1], (web.moves, table))
        self.assertTrue(100 < sum(found) < 450, sum(found))

    def test_values_that_keep_it_are_held(self):
        draw = random.Random(3)
        for web, table in webs_and_tables(draw, 2, 40):
            self.assertIs(tables.is_table(web, table), True)
            for values in product((-4, -1, 0, 3), repeat=2):
                for state in (0, 1):
                    if tables.keeps_table(table, state, values):
                        self.assertIs(is_held_for(web, state, values, 30), True)

    def test_keeps_table(self):
        self.assertEqual([tables.keeps_table(LOOSE, 1, (level,)) for level in (-1, 0, 5, 6)], [False, True, True, False])
        self.assertEqual([tables.keeps_table((None, LOOSE[1]), state, (2,)) for state in (0, 1)], [False, True])
        self.assertIs(tables.keeps_table((((0,),),), 0, ()), True)
        self.assertIs(tables.keeps_table(BEST, 0, (10 ** 400,)), True)


class Point39(unittest.TestCase):
    def test_lowered(self):
        self.assertEqual(tables.lowered_table(TANK, LOOSE), BEST)
        self.assertEqual(tables.lowered_table(TANK, BEST), BEST)
        self.assertEqual(tables.lowered_table(TANK, (None, None)), (None, None))
        lone = Web(("x",), ("a", "b"), (("m", 0, 0, ()), ("n", 1, 0, ())))
        self.assertEqual(tables.lowered_table(lone, (((0, 3), (N, 0)), None)), (((0, N), (N, 0)), None))
        draw = random.Random(4)
        lower = 0
        for _ in range(400):
            web = random_web(draw, 2, 2, 2, 3, -3, 1)
            table = tuple([random_closed(draw, 2, -3, 2) for _ in range(2)])
            if tables.is_table(web, table):
                less = tables.lowered_table(web, table)
                self.assertIs(tables.is_table(web, less), True)
                self.assertEqual(tables.merged_table(less, table), less)
                lower += less != table
        self.assertGreater(lower, 40)

    def test_merged(self):
        one = (((0, 2, N), (-5, 0, N), (N, N, 0)), None, ((0, N, N),) * 3, None)
        other = (((0, 1, 1), (N, 0, N), (N, -3, 0)), ((0, 1, N),) * 3, None, None)
        self.assertEqual(tables.merged_table(one, other), (((0, 1, N), (N, 0, N), (N, N, 0)), other[1], one[2], None))
        draw = random.Random(5)
        merged = 0
        for _ in range(900):
            web = random_web(draw, 2, 2, 2, 3, -3, 1)
            found = [tuple([draw.choice((None, random_closed(draw, 2, -3, 2), random_closed(draw, 2, -3, 2))) for _ in range(2)]) for _ in range(2)]
            if all([tables.is_table(web, table) for table in found]):
                both = tables.merged_table(*found)
                self.assertIs(tables.is_table(web, both), True)
                merged += both not in found
                # Fewer and weaker rules, and fewer moves.
                weaker = tuple([(*move[:3], tuple([(*rule[:3], rule[3] - 1) for rule in move[3][1:]])) for move in web.moves])
                self.assertIs(tables.is_table(Web(web.quantities, web.states, weaker), both), True)
                self.assertIs(tables.is_table(without_moves(web, (0,)), both), True)
        self.assertGreater(merged, 40)

    def test_reached(self):
        web = Web((), ("a", "b", "c", "d"), (("m", 0, 1, ()), ("m", 2, 1, ()), ("m", 1, 1, ())))
        rows = ((0,),)
        self.assertEqual(tables.reached_table(web, (rows,) * 4, 0), (rows, rows, None, None))
        self.assertEqual(tables.reached_table(web, (rows,) * 4, 3), (None, None, None, rows))
        self.assertEqual(tables.reached_table(web, (None, rows, rows, None), 2), (None, rows, rows, None))
        draw = random.Random(6)
        for web, table in webs_and_tables(draw, 1, 30):
            for state in (0, 1):
                fewer = tables.reached_table(web, table, state)
                self.assertIs(tables.is_table(web, fewer), True)
                self.assertEqual([rows is not None for rows in fewer], [at in reached(web, state) for at in (0, 1)])

    def test_great(self):
        web = drifting_web()
        self.assertIs(tables.is_table(web, layers(web, 30)[30]), False)
        self.assertIs(tables.is_table(web, first_layer(web)), False)
        rules = tuple([("rise", at, at, 0) for at in range(1, 7)] * 5)
        still = Web(NAMES, STATES, tuple([("m", at % 8, (at + 3) % 8, rules) for at in range(40)]))
        exact = tuple([tuple([10 ** 500 * (j - i) for j in range(7)]) for i in range(7)])
        self.assertIs(tables.is_table(still, (exact,) * 8), True)
        upper = tuple([tuple([exact[i][j] if j == 0 else 0 if i == j else None for j in range(7)]) for i in range(7)])
        self.assertEqual(tables.lowered_table(still, (exact,) * 8), (upper,) * 8)
        self.assertEqual(tables.merged_table((exact,) * 8, first_layer(still)), first_layer(still))


if __name__ == "__main__":
    unittest.main()
