import random
import unittest

from heldalways import greedy
from heldalways.answers import answer_ranges
from heldalways.errors import Refused
from heldalways.steps import is_script
from heldalways.tours import keeps_rows
from heldalways.webs import Web
from helping import NAMES, STATES
from test_answers import CALM, GATES, KEEP, POUR, TABLE, webs_and_tables

FAR = 10 ** 400
FREE = Web(("x", "y"), ("a",), (("m", 0, 0, (("now", 0, 2, 3), ("now", 1, 0, -4))),))
LOOSE = (((0, None, None), (None, 0, None), (None, None, 0)),)


class Point44(unittest.TestCase):
    def refused(self, word, call, *told):
        with self.assertRaises(Refused, msg=told) as caught:
            call(*told)
        self.assertEqual(caught.exception.word, word)

    def test_example(self):
        self.assertEqual(greedy.least_run(GATES, TABLE, (0, (0, 0)), (0, 0)), ((0, (0, 0)), ((0, (1, 0)), (0, (2, 1)))))

    def test_answers(self):
        self.assertEqual(greedy.least_answer(GATES, TABLE, (4, 4), 0), (5, 4))
        self.assertEqual([greedy.least_answer(POUR, CALM, (level,), 0) for level in (-9, 0, 3, 5)], [(0,), (0,), (3,), (5,)])
        self.assertEqual([greedy.greatest_answer(POUR, CALM, (level,), 0) for level in (-9, 0, 3, 5)], [(5,)] * 4)
        self.assertEqual(greedy.least_answer(Web((), ("a",), (("m", 0, 0, ()),)), (((0,),),), (), 0), ())
        self.assertEqual(greedy.least_answer(GATES, TABLE, (FAR, FAR + 1), 0), (FAR + 1, FAR))

    def test_refused(self):
        self.refused("low", greedy.least_answer, FREE, LOOSE, (0, 0), 0)
        self.refused("high", greedy.greatest_answer, FREE, LOOSE, (0, 0), 0)
        self.refused("high", greedy.greatest_answer, GATES, TABLE, (0, 0), 0)
        self.refused("held", greedy.least_answer, GATES, TABLE, (0, 2), 0)
        self.refused("held", greedy.greatest_answer, GATES, TABLE, (0, 2), 0)
        self.refused("held", greedy.least_run, GATES, TABLE, (0, (0, 2)), (0,))
        self.refused("high", greedy.greatest_run, GATES, TABLE, (0, (0, 0)), (0,))
        self.refused("low", greedy.least_run, FREE, LOOSE, (0, (0, 0)), (0, 0))
        # Never without moves.
        for call in (greedy.least_run, greedy.greatest_run):
            self.assertEqual(call(GATES, TABLE, (0, (0, 2)), ()), ((0, (0, 2)), ()))
            self.assertEqual(call(FREE, LOOSE, (0, (0, 0)), ()), ((0, (0, 0)), ()))

    def test_refused_later(self):
        web = Web(("x",), ("a", "b"), (("m", 0, 1, KEEP), ("n", 1, 0, (("now", 1, 0, -5),))))
        table = (((0, None), (None, 0)),) * 2
        self.assertEqual(greedy.least_run(web, table, (0, (9,)), (0,)), ((0, (9,)), ((0, (0,)),)))
        self.refused("low", greedy.least_run, web, table, (0, (9,)), (0, 1))
        self.assertEqual(greedy.greatest_run(web, table, (0, (9,)), (0, 1)), ((0, (9,)), ((0, (5,)), (1, (5,)))))

    def random_run(self, draw, web, table, state, values, script):
        """A run without odd steps from values that keep the table."""
        steps = []
        for move in script:
            said = [None] * len(values)
            for at in draw.sample(range(len(values)), len(values)):
                low, high = answer_ranges(web, table, values, move, tuple(said))[at]
                low = low if low is not None else -5 if high is None else high - 5
                said[at] = draw.randint(low, low + 5 if high is None else high)
            values = tuple(said)
            steps.append((move, values))
        return steps

    def test_least_of_all(self):
        draw = random.Random(1)
        compared = 0
        for web, table in webs_and_tables(draw, 2, 80):
            for _ in range(6):
                state = draw.randrange(2)
                script, at = [], state
                for _ in range(4):
                    going = [move for move in range(len(web.moves)) if web.moves[move][1] == at]
                    if going:
                        script.append(draw.choice(going))
                        at = web.moves[script[-1]][2]
                script = tuple(script)
                self.assertTrue(is_script(web, state, script))
                start = [tuple([draw.randint(-5, 5) for _ in range(2)]) for _ in range(2)]
                if not all([keeps_rows(table[state], values) for values in start]):
                    continue
                one, other = [((state, values), tuple(self.random_run(draw, web, table, state, values, script))) for values in start]
                for call, pick in ((greedy.higher_run, max), (greedy.lower_run, min)):
                    both = call(one, other)
                    self.assertEqual(both[0], (state, tuple(map(pick, *start))))
                    self.assertEqual(both[1], tuple([(move, tuple(map(pick, first, last))) for (move, first), (_, last) in zip(one[1], other[1])]))
                    self.assertIsNone(greedy.first_odd(web, table, both))
                    compared += 1
                low = greedy.lower_run(one, other)[0][1]
                try:
                    least = greedy.least_run(web, table, (state, low), script)
                except Refused as error:
                    self.assertEqual(error.word, "low")
                    continue
                self.assertIsNone(greedy.first_odd(web, table, least))
                for run in (one, other):
                    for (_, first), (_, last) in zip(least[1], run[1]):
                        self.assertTrue(all([a <= b for a, b in zip(first, last)]))
        self.assertGreater(compared, 200)

    def test_first_odd(self):
        run = ((0, (0, 0)), ((0, (1, 0)), (0, (2, 1)), (0, (2, 1)), (0, (9, 9))))
        self.assertEqual(greedy.first_odd(GATES, TABLE, run), 2)
        self.assertIsNone(greedy.first_odd(GATES, TABLE, (run[0], run[1][:2])))
        self.assertIsNone(greedy.first_odd(GATES, TABLE, ((0, (0, 9)), ())))
        self.assertEqual(greedy.first_odd(GATES, TABLE, ((0, (0, 0)), ((0, (1, 3)),))), 0)
        self.assertIsNone(greedy.first_odd(GATES, TABLE, ((0, (FAR, FAR)), ((0, (FAR + 1, FAR)),))))
        # An answer to values that do not keep the table is none the less an answer.
        self.assertIsNone(greedy.first_odd(GATES, TABLE, ((0, (0, 9)), ((0, (1, 0)),))))

    def test_higher_and_lower(self):
        one = ((0, (1, 5)), ((0, (2, 6)), (0, (9, 0))))
        other = ((0, (3, 4)), ((0, (1, 7)), (0, (FAR, -FAR))))
        self.assertEqual(greedy.higher_run(one, other), ((0, (3, 5)), ((0, (2, 7)), (0, (FAR, 0)))))
        self.assertEqual(greedy.lower_run(one=one, other=other), ((0, (1, 4)), ((0, (1, 6)), (0, (9, -FAR)))))
        self.assertEqual(greedy.higher_run(((1, ()), ()), ((1, ()), ())), ((1, ()), ()))

    def test_great(self):
        rules = tuple([("rise", at, at, 1) for at in range(1, 7)] + [("fall", at, at, -2) for at in range(1, 7)])
        web = Web(NAMES, STATES, tuple([("m", at % 8, (at + 1) % 8, rules) for at in range(40)]))
        table = (tuple([tuple([0 if i == j else None for j in range(7)]) for i in range(7)]),) * 8
        script = (tuple(range(40)) * 3)[:100]
        self.assertEqual(greedy.least_run(web, table, (0, (FAR,) * 6), script)[1][99], (script[99], (FAR + 100,) * 6))
        self.assertEqual(greedy.greatest_run(web, table, (0, (FAR,) * 6), script)[1][99], (script[99], (FAR + 200,) * 6))


if __name__ == "__main__":
    unittest.main()
