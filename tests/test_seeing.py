import random
import unittest
from itertools import product

from heldalways import seeing
from heldalways.answers import is_answer
from heldalways.court import best_table, holds_ever
from heldalways.errors import InvalidValues, Refused
from heldalways.foresight import can_hold_seeing
from heldalways.sight import scripts_ahead, sight_web, sighted_run
from heldalways.steps import end_state, first_break, positions_of, said_in, script_of
from heldalways.tables import are_closed, keeps_table
from heldalways.tours import keeps_rows
from heldalways.webs import Web
from helping import NAMES, STATES, random_web
from odd import ODD, told
from test_sight import READY

NEAR = (("rise", 1, 1, -2), ("fall", 1, 1, -2))


def small_webs(draw, wanted):
    """Webs, and sights for which their webs of pairs are no greater than they may be."""
    while wanted:
        web = random_web(draw, draw.choice((1, 1, 2)), draw.choice((2, 3)), draw.choice((2, 3, 4)), 3, -3, draw.choice((0, 1, 2)))
        sight = draw.randrange(4)
        try:
            sight_web(web, sight)
        except Refused:
            continue
        wanted -= 1
        yield web, sight


def ready_web(draw):
    """A web in which it may help to know what comes behind a move that lets a value go some way."""
    far = draw.randint(0, 3)
    wait = ("wait", 0, 1, (("rise", 1, 1, -far), ("fall", 1, 1, -far)))
    signs = []
    for _ in range(2):
        slow = draw.randint(0, 1)
        bound = draw.choice((("now", 0, 1, draw.randint(0, 4)), ("now", 1, 0, -draw.randint(0, 4))))
        signs.append(("sign", 1, draw.choice((0, 0, 1)), (("rise", 1, 1, -slow), ("fall", 1, 1, -slow), bound)))
    return Web(("x",), ("a", "b"), (wait, *signs))


class Points62And63(unittest.TestCase):
    def refused(self, word, call, *told_values):
        with self.assertRaises(Refused) as caught:
            call(*told_values)
        self.assertEqual(caught.exception.word, word)

    def test_examples(self):
        self.assertEqual(seeing.sight_table(READY, 0), (None, None))
        self.assertEqual(seeing.sight_table(READY, 1), (((0, 1), (-3, 0)), None))
        self.assertEqual(seeing.least_sight(READY, 0, (3,), 3), 1)
        self.assertEqual(seeing.lost_script(READY, 1, (3,), 1), (2,))
        self.assertEqual(seeing.seeing_run(READY, (0, (3,)), (0, 2), 1), ((0, (3,)), ((0, (1,)), (2, (1,)))))

    def test_small(self):
        self.assertEqual([seeing.holds_seeing(READY, 0, (x,), 1) for x in (0, 1, 3, 4)], [False, True, True, False])
        self.assertEqual([seeing.holds_seeing(READY, 1, (x,), 1) for x in (0, 1, 3)], [False] * 3)
        self.assertEqual([seeing.lost_script(READY, 1, (x,), 1) for x in (0, 1, 2, 3)], [(1,), (1,), (1,), (2,)])
        self.assertIsNone(seeing.lost_script(READY, 0, (2,), 1))
        self.assertEqual(seeing.lost_script(READY, 0, (4,), 1), (0,))
        self.assertEqual(seeing.lost_script(READY, 0, (2,), 0), ())
        self.assertIsNone(seeing.least_sight(READY, 0, (3,), 0))
        self.assertIsNone(seeing.least_sight(READY, 0, (4,), 2))
        self.assertEqual(seeing.seeing_run(READY, (0, (1,)), (), 1), ((0, (1,)), ()))
        bare = Web((), ("a",), ())
        self.assertEqual((seeing.sight_table(bare, 7), seeing.least_sight(bare, 0, (), 7), seeing.seeing_run(bare, (0, ()), (), 7)),
                         ((((0,),),), 0, ((0, ()), ())))

    def test_against_pairs(self):
        draw = random.Random(1)
        counts = [0, 0]
        for web, sight in small_webs(draw, 150):
            wide, pairs, _ = sight_web(web, sight)
            table = seeing.sight_table(web, sight)
            for state in range(len(web.states)):
                self.assertTrue(table[state] is None or are_closed(table[state]))
                for values in product(range(-4, 5, 2), repeat=len(web.quantities)):
                    lost = [script for at, (place, script) in enumerate(pairs) if place == state and not holds_ever(wide, at, values)]
                    self.assertIs(seeing.holds_seeing(web, state, values, sight), lost == [])
                    self.assertEqual(seeing.lost_script(web, state, values, sight), lost[0] if lost else None)
                    self.assertEqual(table[state] is not None and keeps_rows(table[state], values), lost == [])
                    counts[lost == []] += 1
        self.assertTrue(min(counts) > 200, counts)

    def test_rows_are_the_least(self):
        draw = random.Random(2)
        tried = 0
        for web, sight in small_webs(draw, 200):
            for state, rows in enumerate(seeing.sight_table(web, sight)):
                if rows is not None and len(web.quantities) == 1:
                    held = [x for x in range(-30, 31) if seeing.holds_seeing(web, state, (x,), sight)]
                    low = -30 if rows[0][1] is None else rows[0][1]
                    high = 30 if rows[1][0] is None else -rows[1][0]
                    self.assertEqual(held, list(range(low, high + 1)))
                    tried += 1
        self.assertGreater(tried, 100)

    def test_more_sight_holds_no_less(self):
        draw = random.Random(3)
        gained = 0
        for web, sight in [*small_webs(draw, 100), *[(ready_web(draw), 2) for _ in range(150)]]:
            values = tuple([draw.randint(-3, 4) for _ in web.quantities])
            for state in range(len(web.states)):
                held = [seeing.holds_seeing(web, state, values, less) for less in range(sight + 1)]
                self.assertEqual(held, sorted(held))
                gained += held[0] != held[-1]
                least = held.index(True) if True in held else None
                self.assertEqual(seeing.least_sight(web, state, values, sight), least)
                self.assertEqual(held[0], holds_ever(web, state, values))
                if held[-1]:
                    for most in range(3):
                        self.assertIs(can_hold_seeing(web, state, values, most, sight), True)
        self.assertGreater(gained, 4)

    def test_runs(self):
        draw = random.Random(4)
        tried = 0
        for web, sight in [*small_webs(draw, 200), *[(ready_web(draw), draw.randrange(3)) for _ in range(100)]]:
            state = draw.randrange(len(web.states))
            values = tuple([draw.randint(-3, 3) for _ in web.quantities])
            script, end = [], state
            for _ in range(draw.randrange(6)):
                going = [at for at, move in enumerate(web.moves) if move[1] == end]
                if going:
                    script.append(draw.choice(going))
                    end = web.moves[script[-1]][2]
            script = tuple(script)
            if not seeing.holds_seeing(web, state, values, sight):
                self.refused("held", seeing.seeing_run, web, (state, values), script, sight)
                continue
            run = seeing.seeing_run(web, (state, values), script, sight)
            self.assertEqual((run[0], script_of(run), len(said_in(run))), ((state, values), script, len(script)))
            self.assertIsNone(first_break(web, run))
            wide, pairs, _ = sight_web(web, sight)
            table = best_table(wide)
            # Behind the script it knows the moves that are told first each time.
            ahead, at = [], end_state(web, state, script)
            while len(ahead) < sight and [move for move in web.moves if move[1] == at]:
                ahead.append([move for move, told_move in enumerate(web.moves) if told_move[1] == at][0])
                at = web.moves[ahead[-1]][2]
            self.assertEqual(tuple(ahead), scripts_ahead(web, end_state(web, state, script), sight)[0])
            other = sighted_run(web, sight, run, tuple(ahead))
            for place, said in positions_of(wide, other):
                self.assertIs(keeps_table(table, place, said), True)
            for (_, old), (move, new) in zip(positions_of(wide, other), other[1]):
                self.assertIs(is_answer(wide, table, old, move, new), True)
            tried += len(script) > 1
        self.assertGreater(tried, 50)

    def test_errors(self):
        many = Web(("x",), ("a",), (("m", 0, 0, ()),) * 9)
        self.refused("size", seeing.sight_table, many, 1)
        self.refused("size", seeing.holds_seeing, many, 0, (1,), 1)
        self.refused("size", seeing.lost_script, many, 0, (1,), 1)
        lost = Web(("x",), ("a",), (("m", 0, 0, (("now", 0, 0, 1),)),) * 9)
        self.refused("size", seeing.seeing_run, lost, (0, (1,)), (), 1)
        self.refused("held", seeing.seeing_run, lost, (0, (1,)), (), 0)
        self.refused("size", seeing.least_sight, lost, 0, (1,), 1)
        self.assertEqual(seeing.least_sight(many, 0, (1,), 7), 0)
        self.assertIsNone(seeing.least_sight(lost, 0, (1,), 0))
        self.refused("held", seeing.seeing_run, READY, (1, (3,)), (1,), 1)
        for value, at in ((None, -1), ([3], -1), ((3, 3), -1), ((10 ** 9 + 1,), 0), ((True,), 0)):
            # The values ahead of the size.
            for web, sight in ((READY, 1), (many, 1)):
                with self.assertRaises(InvalidValues) as caught:
                    seeing.holds_seeing(web, 0, value, sight)
                self.assertEqual(caught.exception.at, at)
        for value in ODD:
            if not isinstance(value, tuple) or told(value) not in ("(0)",):
                with self.assertRaises(InvalidValues, msg=told(value)):
                    seeing.holds_seeing(READY, 0, value, 1)

    def test_great(self):
        draw = random.Random(5)
        keep = tuple([("rise", at, at % 6 + 1, draw.randint(-5, 0)) for at in range(1, 7)] + [("fall", at, at % 6 + 1, draw.randint(-9, -5)) for at in range(1, 7)]
                     + [("now", at, 0, -10 ** 6) for at in range(1, 7)] + [("now", draw.randint(0, 6), draw.randint(0, 6), -9 * 10 ** 5) for _ in range(12)])
        ring = Web(NAMES, STATES, tuple([("m", at, (at + 1) % 8, keep) for at in range(8)]))
        table = seeing.sight_table(ring, 7)
        self.assertIs(table[3] is not None, True)
        script = tuple([at % 8 for at in range(100)])
        run = seeing.seeing_run(ring, (0, (0,) * 6), script, 7)
        self.assertEqual((first_break(ring, run), script_of(run)), (None, script))
        # 40 moves and 8 pairs.
        full = Web(NAMES, STATES, tuple([("m", at % 8, (at + at // 8) % 8, keep) for at in range(40)]))
        self.assertEqual(seeing.least_sight(full, 0, (0,) * 6, 7), 0)
        run = seeing.seeing_run(full, (0, (0,) * 6), (0,) * 100, 0)
        self.assertIsNone(first_break(full, run))
        self.refused("size", seeing.sight_table, full, 7)
        six = Web(NAMES, ("a",), (("m", 0, 0, keep),) * 6)
        self.assertEqual(len(seeing.seeing_run(six, (0, (0,) * 6), (5,) * 100, 1)[1]), 100)


if __name__ == "__main__":
    unittest.main()
