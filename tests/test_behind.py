import random
import unittest
from itertools import product

from heldalways import behind
from heldalways.answers import is_answer
from heldalways.bounds import heaviest
from heldalways.errors import Refused
from heldalways.steps import is_script, positions_of, script_of
from heldalways.tables import is_table
from heldalways.tours import keeps_rows
from heldalways.webs import Web
from helping import NAMES, STATES
from test_answers import webs_and_tables
from test_tables import closed

KEEP = (("now", 0, 1, 0), ("now", 1, 0, -9))
TANK = Web(("level",), ("dry", "wet"), (("pour", 0, 1, KEEP + (("rise", 1, 1, 2), ("fall", 1, 1, -4))),
                                         ("drain", 1, 0, KEEP + (("fall", 1, 1, 3),)), ("rest", 1, 1, (("rise", 1, 1, 0), ("fall", 1, 1, 0)))))
TABLE = (((0, 1), (-7, 0)), ((0, 4), (-9, 0)))
FAR = 10 ** 400


def scripts(web, state, most):
    found = [()]
    for script in found:
        for at in range(len(web.moves)):
            if len(script) < most and is_script(web, state, (*script, at)):
                found.append((*script, at))
    return found


def behind_by_trial(web, table, script, begun, span):
    """The values of a span that can be there behind a script."""
    for move in script:
        begun = [new for new in product(span, repeat=len(web.quantities))
                 if any([is_answer(web, table, old, move, new) for old in begun])]
    return begun


class Point55(unittest.TestCase):
    def refused(self, *told):
        for call, more in ((behind.rows_behind, ()), (behind.run_behind, ((3,),))):
            with self.assertRaises(Refused) as caught:
                call(*told[:4], *more, told[4])
            self.assertEqual(caught.exception.word, "held")

    def test_rows(self):
        self.assertIs(is_table(TANK, TABLE), True)
        self.assertEqual(behind.rows_behind(TANK, TABLE, 0, ()), TABLE[0])
        self.assertEqual(behind.rows_behind(TANK, TABLE, 0, (), (3,)), ((0, 3), (-3, 0)))
        self.assertEqual(behind.rows_behind(TANK, TABLE, 0, (0,), (3,)), ((0, 5), (-7, 0)))
        self.assertEqual(behind.rows_behind(TANK, TABLE, 0, (0, 2), (3,)), ((0, 5), (-7, 0)))
        self.assertEqual(behind.rows_behind(TANK, TABLE, 0, (0, 1), values=(3,)), ((0, 1), (-4, 0)))
        self.assertEqual(behind.rows_behind(TANK, TABLE, 0, (0,)), ((0, 4), (-9, 0)))
        self.assertEqual(behind.rows_behind(TANK, TABLE, 0, (0, 1), None), ((0, 1), (-6, 0)))
        self.assertEqual(behind.rows_behind(Web((), ("a",), (("m", 0, 0, ()),)), (((0,),),), 0, (0, 0), ()), ((0,),))

    def test_refused(self):
        for values in ((0,), (8,), (FAR,)):
            self.refused(TANK, TABLE, 0, (), values)
            self.refused(TANK, TABLE, 0, (0, 1), values)
        self.refused(TANK, TABLE, 1, (1,), (3,))

    def test_runs(self):
        self.assertEqual(behind.run_behind(TANK, TABLE, 0, (), (3,)), ((0, (3,)), ()))
        self.assertEqual(behind.run_behind(TANK, TABLE, 0, (), (3,), (3,)), ((0, (3,)), ()))
        self.assertIsNone(behind.run_behind(TANK, TABLE, 0, (), (3,), (4,)))
        self.assertIsNone(behind.run_behind(TANK, TABLE, 0, (), (0,)))
        self.assertEqual(behind.run_behind(TANK, TABLE, 0, (0, 1), (4,), values=(3,)), ((0, (3,)), ((0, (7,)), (1, (4,)))))
        self.assertIsNone(behind.run_behind(TANK, TABLE, 0, (0, 1), (5,), (3,)))
        self.assertIsNone(behind.run_behind(TANK, TABLE, 0, (0,), (FAR,), (3,)))
        free = Web(("x",), ("a",), (("m", 0, 0, (("rise", 1, 1, 5),)),))
        loose = (((0, None), (None, 0)),)
        run = behind.run_behind(free, loose, 0, (0, 0), (FAR,))
        self.assertEqual(run[1][1], (0, (FAR,)))
        self.assertTrue(run[0][1][0] + 10 <= run[1][0][1][0] + 5 <= FAR)

    def test_by_trial(self):
        draw = random.Random(1)
        lost, found = 0, 0
        for web, table in webs_and_tables(draw, 1, 60):
            for state in (0, 1):
                for script in scripts(web, state, 2):
                    start = [(number,) for number in range(-12, 13) if keeps_rows(table[state], (number,))]
                    values = draw.choice([None] + start)
                    begun = start if values is None else [values]
                    right = behind_by_trial(web, table, script, begun, range(-14, 15))
                    rows = behind.rows_behind(web, table, state, script, values)
                    self.assertTrue(closed(rows))
                    self.assertEqual(heaviest(rows), rows)
                    for goal in range(-6, 7):
                        self.assertEqual(keeps_rows(rows, (goal,)), (goal,) in right, (web.moves, table, script, values, goal))
                        run = behind.run_behind(web, table, state, script, (goal,), values)
                        self.assertEqual(run is not None, (goal,) in right)
                        lost += run is None
                        found += run is not None
                        if run is not None:
                            self.check_run(web, table, run, state, script, (goal,), values)
        self.assertTrue(lost > 100 and found > 100, (lost, found))

    def check_run(self, web, table, run, state, script, goal, values):
        places = positions_of(web, run)
        self.assertEqual((run[0][0], script_of(run), places[-1][1]), (state, script, goal))
        self.assertTrue(run[0][1] == values if values is not None else keeps_rows(table[state], run[0][1]))
        for (_, old), (move, new) in zip(places, run[1]):
            self.assertIs(is_answer(web, table, old, move, new), True)

    def test_two_quantities(self):
        draw = random.Random(2)
        checked = 0
        for web, table in webs_and_tables(draw, 2, 25):
            for state in (0, 1):
                for script in scripts(web, state, 3):
                    rows = behind.rows_behind(web, table, state, script)
                    # The rows behind a script are nowhere below those behind its last moves alone.
                    for many in range(len(script)):
                        fewer = behind.rows_behind(web, table, web.moves[script[many]][2], script[many + 1:])
                        for row, beside in zip(rows, fewer):
                            for entry, other in zip(row, beside):
                                self.assertTrue(other is None or entry is not None and entry >= other)
                    for goal in product((-3, 0, 2), repeat=2):
                        run = behind.run_behind(web, table, state, script, goal)
                        self.assertEqual(run is not None, keeps_rows(rows, goal))
                        if run is not None:
                            checked += len(script) > 1
                            self.check_run(web, table, run, state, script, goal, None)
        self.assertGreater(checked, 50)

    def test_great(self):
        rules = tuple([("rise", at, at, 1) for at in range(1, 7)] + [("fall", at, at, -2) for at in range(1, 7)])
        web = Web(NAMES, STATES, tuple([("m", at % 8, (at + 1) % 8, rules) for at in range(40)]))
        table = (tuple([tuple([0 if i == j else None for j in range(7)]) for i in range(7)]),) * 8
        script = tuple(range(40)) * 2 + tuple(range(20))
        rows = behind.rows_behind(web, table, 0, script, (FAR,) * 6)
        self.assertEqual([(rows[0][at], -rows[at][0]) for at in range(1, 7)], [(FAR + 100, FAR + 200)] * 6)
        run = behind.run_behind(web, table, 0, script, (FAR + 100, FAR + 150, FAR + 101, FAR + 200, FAR + 199, FAR + 123), (FAR,) * 6)
        self.check_run(web, table, run, 0, script, (FAR + 100, FAR + 150, FAR + 101, FAR + 200, FAR + 199, FAR + 123), (FAR,) * 6)
        self.assertIsNone(behind.run_behind(web, table, 0, script, (FAR + 99,) * 6, (FAR,) * 6))


if __name__ == "__main__":
    unittest.main()
