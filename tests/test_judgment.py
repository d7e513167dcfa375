import random
import unittest

from heldalways import judgment
from heldalways.court import best_table, is_verdict_at, paper_state
from heldalways.judgment import Judgment
from heldalways.pumps import Pump, Ring
from heldalways.steps import end_state, is_script
from heldalways.webs import Web, reached
from helping import NAMES, STATES, drifting_web, great_web, random_web
from odd import ODD, STRANGE, spoiled, told
from test_court import PARTS, RING, is_paper
from test_pumps import RAINS, TANK
from test_settle import some_webs

ROWS = ((0, None), (None, 0))
RIGHT = ((None, ROWS, ROWS, None), (RING, None, None, RING), ((), None, None, (2,)))


class Point41(unittest.TestCase):
    def right(self, web, value, expected=True):
        self.assertIs(judgment.is_judgment(web, value), expected)

    def test_class(self):
        for value in ODD:
            made = Judgment(value, value, value)
            self.assertTrue(made.table is value and made.papers is value and made.ways is value)
        made = Judgment(table=1, papers=2, ways=3)
        self.assertEqual((made.table, made.papers, made.ways), (1, 2, 3))

    def test_way_between(self):
        web = Web((), STATES[:5], (("m", 0, 1, ()), ("m", 1, 2, ()), ("n", 0, 2, ()), ("m", 2, 3, ()), ("m", 3, 0, ()), ("m", 4, 4, ())))
        self.assertEqual([judgment.way_between(web, 0, end) for end in range(5)], [(), (0,), (2,), (2, 3), None])
        self.assertEqual(judgment.way_between(web, 1, 0), (1, 3, 4))
        self.assertEqual(judgment.way_between(web, 4, 4), ())
        draw = random.Random(1)
        for _ in range(100):
            web = random_web(draw, 0, 4, 5, 0, 0, 0)
            for state in range(4):
                ends = {state: 0}
                for many in range(1, 5):
                    for at in list(ends):
                        for move in web.moves:
                            if move[1] == at and ends[at] == many - 1:
                                ends.setdefault(move[2], many)
                for end in range(4):
                    way = judgment.way_between(web, state, end)
                    self.assertEqual(None if way is None else len(way), ends.get(end))
                    if way is not None:
                        self.assertIs(is_script(web, state, way), True)
                        self.assertEqual(end_state(web, state, way), end)

    def test_is_judgment(self):
        self.right(PARTS, Judgment(*RIGHT))
        # Tables that tell too little are right, but what they do not tell must be shown.
        self.right(PARTS, Judgment((None,) * 4, *RIGHT[1:]), False)
        self.right(PARTS, Judgment((None, ROWS, ((0, 0), (None, 0)), None), *RIGHT[1:]))
        self.right(PARTS, Judgment((ROWS, ROWS, ROWS, ROWS), (None,) * 4, (None,) * 4), False)
        for papers in (RIGHT[1][:3], (*RIGHT[1], None), list(RIGHT[1]), None, (None, None, None, RING), (RING, RING, None, RING),
                       (RING, None, None, RAINS), (RING, False, None, RING), (RING, None, None, Ring((), 1, 0, 1, (("rule", 0), ("rule", 1))))):
            self.right(PARTS, Judgment(RIGHT[0], papers, RIGHT[2]), False)
        for ways in (((), None, None), (*RIGHT[2], None), list(RIGHT[2]), ((), (), None, (2,)), (None, None, None, (2,)), ((), None, None, ()),
                     ((), None, None, (2, 0)), ((0,), None, None, (2,)), ((), None, None, [2]), ((), None, None, (0,)), ((), None, False, (2,))):
            self.right(PARTS, Judgment(RIGHT[0], RIGHT[1], ways), False)
        self.right(TANK, Judgment((None,), (RAINS,), ((0, 0, 0),)))
        self.right(TANK, Judgment((None,), (Pump(RAINS.excursions, 0, 1),), ((),)), False)

    def test_any_value(self):
        for value in [*ODD, RING, RIGHT]:
            self.right(PARTS, value, False)
            for at in range(3):
                parts = list(RIGHT)
                parts[at] = value
                self.right(PARTS, Judgment(*parts), False)
        for at in range(3):
            for wrong in spoiled(RIGHT[at], STRANGE + ["a"]):
                parts = list(RIGHT)
                parts[at] = wrong
                self.right(PARTS, Judgment(*parts), False)

    def test_judgment(self):
        made = judgment.judgment(PARTS)
        self.assertEqual((made.table, made.ways), (RIGHT[0], RIGHT[2]))
        self.right(PARTS, made)
        draw = random.Random(2)
        counts = [0, 0, 0]
        for web in some_webs(draw, 150):
            made = judgment.judgment(web)
            self.right(web, made)
            self.assertEqual(made.table, best_table(web))
            for state, rows in enumerate(made.table):
                counts[0] += rows is not None
                if rows is None:
                    counts[1 if isinstance(made.papers[state], Ring) else 2] += 1
                    self.assertIs(is_paper(web, made.papers[state]), True)
                    self.assertIs(is_verdict_at(web, state, made.papers[state]), True)
                    place = paper_state(web, made.papers[state])
                    self.assertIn(place, reached(web, state))
                    self.assertEqual(len(made.ways[state]), len(judgment.way_between(web, state, place)))
        self.assertTrue(min(counts) > 30, counts)

    def test_same_states(self):
        draw = random.Random(3)
        for web in some_webs(draw, 60):
            made = judgment.judgment(web)
            for state, rows in enumerate(made.table):
                if rows is not None:
                    # No other right judgment tells fewer states.
                    less = tuple([None if at == state else other for at, other in enumerate(made.table)])
                    for paper in [paper for paper in made.papers if paper is not None]:
                        for way in (None, (), judgment.way_between(web, state, paper_state(web, paper))):
                            papers = tuple([paper if at == state else other for at, other in enumerate(made.papers)])
                            ways = tuple([way if at == state else other for at, other in enumerate(made.ways)])
                            self.right(web, Judgment(less, papers, ways), False)

    def test_great(self):
        draw = random.Random(4)
        for web in (drifting_web(), great_web(draw, -10 ** 6, 10 ** 6), great_web(draw, -5, 0), great_web(draw, -10 ** 6, -999990), Web(NAMES, STATES, ())):
            self.right(web, judgment.judgment(web))


if __name__ == "__main__":
    unittest.main()
