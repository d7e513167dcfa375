import random
import unittest
from itertools import product

from heldalways import court
from heldalways.amounts import AmountWeb, corner_places, corner_web, rules_at, unseen_web
from heldalways.answers import is_answer
from heldalways.between import between_answer
from heldalways.boxes import boxed_web, ever_in, rows_in
from heldalways.court import Controller
from heldalways.errors import InvalidValues
from heldalways.faults import Fault, fault_of, is_fault
from heldalways.hidden import both_rows
from heldalways.pumps import Pump, Ring, is_pump, is_ring_paper
from heldalways.shapes import alike_states, idle_moves, pieces_of, values_of, web_of
from heldalways.tables import is_table, keeps_table, lowered_table, merged_table, reached_table
from heldalways.tours import is_held_for, keeps_rows
from heldalways.webs import Web, reached, without_moves
from helping import NAMES, STATES, drifting_web, great_web, keeps, random_web
from odd import ODD, STRANGE, spoiled, told
from test_pumps import RAINS, TANK as RAINY
from test_settle import some_webs
from test_tables import BEST, LOOSE, TANK, WET, random_closed

# At "b" there is a ring of the move "m", which starts at "a"; "c" leads to itself alone.
PARTS = Web(("x",), ("a", "b", "c", "d"), (("m", 0, 1, (("now", 0, 1, 4), ("now", 1, 0, -3))), ("n", 2, 2, ()), ("o", 3, 0, ())))
RING = Ring((), 1, 0, 0, (("rule", 0), ("rule", 1)))


def is_paper(web, value):
    return is_ring_paper(web, value) or is_pump(web, value)


class Point40(unittest.TestCase):
    def test_class(self):
        for value in ODD:
            self.assertIs(Controller(value).table, value)
        self.assertEqual(Controller(table=3).table, 3)

    def test_examples(self):
        self.assertEqual(court.court(TANK).table, BEST)
        self.assertEqual([court.holds_ever(TANK, 1, (level,)) for level in (5, 6)], [True, False])
        self.assertEqual(lowered_table(TANK, LOOSE), court.court(TANK).table)
        self.assertEqual((court.kept_states(WET), court.best_table(WET), court.is_verdict(WET, court.court(WET))), ((), (None, None), True))
        self.assertEqual(fault_of(WET, LOOSE).move, 2)
        self.assertIs(is_fault(WET, LOOSE, Fault(2, (1, 2, 0))), True)

    def test_paper_state(self):
        self.assertEqual(court.paper_state(RAINY, RAINS), 0)
        self.assertEqual(court.paper_state(PARTS, RING), 0)
        self.assertEqual(court.paper_state(PARTS, Ring((), 1, None, 0, ())), 1)
        shifted = Pump(tuple([(1, *item[1:]) for item in RAINS.excursions]), 1, 0)
        self.assertEqual(court.paper_state(RAINY, shifted), 1)

    def test_controllers(self):
        for table, right in ((BEST, True), (LOOSE, True), ((None, None), True), ((BEST[0], None), False), ((LOOSE[0], ((0, 0), (-6, 0))), False)):
            self.assertIs(court.is_controller(TANK, Controller(table)), right)
            self.assertIs(court.is_verdict(TANK, Controller(table)), right and None not in table)
            for state in (0, 1):
                self.assertIs(court.is_verdict_at(TANK, state, Controller(table)), right and table[state] is not None)

    def test_any_value(self):
        for value in [*ODD, BEST, Fault(0, ()), RAINS, RING]:
            self.assertIs(court.is_controller(TANK, value), False, told(value))
            self.assertIs(court.is_verdict(TANK, value), False, told(value))
            self.assertIs(court.is_verdict_at(TANK, 0, value), False, told(value))
            self.assertIs(court.is_controller(TANK, Controller(value)), told(value) in (told(BEST), "(None, None)"), told(value))
            self.assertIs(court.is_verdict(TANK, Controller(value)), told(value) == told(BEST), told(value))
        for wrong in spoiled(LOOSE, STRANGE + ["", ()]):
            self.assertIs(court.is_controller(TANK, Controller(wrong)), False, told(wrong))

    def test_papers_as_verdicts(self):
        self.assertIs(court.is_verdict(PARTS, RING), True)
        self.assertEqual([court.is_verdict_at(PARTS, state, RING) for state in range(4)], [True, False, False, True])
        wrong = Ring((), 1, 0, 1, (("rule", 0), ("rule", 1)))
        self.assertIs(court.is_verdict(PARTS, wrong), False)
        self.assertIs(court.is_verdict_at(PARTS, 0, wrong), False)
        self.assertIs(court.is_verdict(RAINY, RAINS), True)
        self.assertIs(court.is_verdict(RAINY, Pump(RAINS.excursions, 0, 1)), False)

    def test_verdicts(self):
        rows = ((0, None), (None, 0))
        self.assertEqual(court.verdict_at(PARTS, 1).table, (None, rows, None, None))
        self.assertEqual(court.verdict_at(PARTS, 2).table, (None, None, rows, None))
        for state in (0, 3):
            self.assertIsInstance(court.verdict_at(PARTS, state), Ring)
            self.assertIs(court.is_verdict_at(PARTS, state, court.verdict_at(PARTS, state)), True)
        self.assertIsInstance(court.court(PARTS), Ring)
        self.assertEqual(court.verdict_at(TANK, 0).table, BEST)

    def test_by_trial(self):
        draw = random.Random(1)
        counts = [0, 0, 0]
        for web in some_webs(draw, 120):
            verdict = court.court(web)
            self.assertIs(court.is_verdict(web, verdict), True)
            for state in range(len(web.states)):
                near = reached(web, state)
                at = court.verdict_at(web, state)
                self.assertIs(court.is_verdict_at(web, state, at), True)
                if isinstance(at, Controller):
                    counts[0] += 1
                    self.assertEqual([rows is not None for rows in at.table], [other in near for other in range(len(web.states))])
                    if isinstance(verdict, Controller):
                        self.assertEqual(at.table, tuple([rows if other in near else None for other, rows in enumerate(verdict.table)]))
                else:
                    counts[1] += 1
                    self.assertNotIsInstance(verdict, Controller)
                    counts[2] += isinstance(at, Pump)
                    self.assertIn(court.paper_state(web, at), near)
                    # No values are held for ever at the place of a right paper.
                    place = court.paper_state(web, at)
                    self.assertIsNone(court.best_table(web)[place])
                    self.assertIs(court.holds_ever(web, place, (0,) * len(web.quantities)), False)
        self.assertTrue(min(counts) > 20, counts)

    def test_never_both(self):
        draw = random.Random(2)
        for web in some_webs(draw, 60):
            best = court.best_table(web)
            for state in range(len(web.states)):
                papers = [court.verdict_at(web, other) for other in reached(web, state)]
                shown = any([not isinstance(paper, Controller) for paper in papers])
                self.assertEqual(best[state] is None, shown)

    def test_least_tables(self):
        draw = random.Random(3)
        compared = 0
        for _ in range(1500):
            web = random_web(draw, 1, 2, draw.choice((1, 2)), 3, -3, 1)
            table = tuple([draw.choice((None, random_closed(draw, 1, -3, 2), random_closed(draw, 1, -3, 2))) for _ in range(2)])
            if is_table(web, table):
                best = court.best_table(web)
                for state in (0, 1):
                    if table[state] is not None:
                        compared += 1
                        self.assertEqual(both_rows(best[state], table[state]), table[state])
                        self.assertEqual(both_rows(court.verdict_at(web, state).table[state], table[state]), table[state])
        self.assertGreater(compared, 300)


class Point41(unittest.TestCase):
    def test_best_tables(self):
        rows = ((0, None), (None, 0))
        self.assertEqual(court.best_table(PARTS), (None, rows, rows, None))
        self.assertEqual(court.kept_states(PARTS), (1, 2))
        self.assertEqual(court.best_table(TANK), BEST)
        self.assertEqual(court.kept_states(TANK), (0, 1))
        self.assertEqual(court.best_table(Web((), ("a", "b"), (("m", 0, 0, (("now", 0, 0, 1),)),))), (None, ((0,),)))

    def test_by_verdicts(self):
        draw = random.Random(4)
        mixed = 0
        for web in some_webs(draw, 150):
            best = court.best_table(web)
            self.assertIs(is_table(web, best), True)
            for state, rows in enumerate(best):
                verdict = court.verdict_at(web, state)
                self.assertEqual(rows, verdict.table[state] if isinstance(verdict, Controller) else None)
            self.assertEqual(court.kept_states(web), tuple([state for state, rows in enumerate(best) if rows is not None]))
            mixed += None in best and best != (None,) * len(best)
            if None not in best:
                self.assertEqual(court.court(web).table, best)
                self.assertEqual(merged_table(best, reached_table(web, best, 0)), best)
        self.assertGreater(mixed, 20)

    def test_holds_ever(self):
        self.assertEqual([court.holds_ever(PARTS, state, (0,)) for state in range(4)], [False, True, True, False])
        self.assertIs(court.holds_ever(TANK, 0, (10 ** 9,)), True)
        self.assertIs(court.holds_ever(Web((), ("a",), ()), 0, ()), True)
        for value, at in ((None, -1), ([0], -1), ((0, 0), -1), ((None,), 0), ((10 ** 9 + 1,), 0), ((True,), 0), ("a", -1)):
            for web in (TANK, PARTS):
                with self.assertRaises(InvalidValues, msg=told(value)) as caught:
                    court.holds_ever(web, 0, value)
                self.assertEqual(caught.exception.at, at)
        for value in ODD:
            with self.assertRaises(InvalidValues, msg=told(value)):
                court.holds_ever(Web(NAMES, ("a",), ()), 0, value)

    def test_in_a_box(self):
        draw = random.Random(5)
        found = []
        for _ in range(200):
            many = draw.choice((1, 1, 2))
            web = random_web(draw, many, 2, 3, 4, -3, 1)
            box = ((-4, 4),) * many if many == 1 else ((-2, 1), (-1, 2))
            boxed = boxed_web(web, box)
            ever = ever_in(web, box)
            for state in (0, 1):
                for row in rows_in(box):
                    held = court.holds_ever(boxed, state, row)
                    found.append(held)
                    if [move for move in web.moves if move[1] == state]:
                        self.assertEqual(held, row in ever[state], (web.moves, state, row))
        self.assertTrue(1000 < sum(found) < len(found) - 1000, (sum(found), len(found)))

    def test_against_layers(self):
        draw = random.Random(6)
        found = []
        for web in some_webs(draw, 60):
            best = court.best_table(web)
            for state in range(len(web.states)):
                for _ in range(4):
                    values = tuple([draw.randint(-6, 4) for _ in web.quantities])
                    held = court.holds_ever(web, state, values)
                    found.append(held)
                    self.assertEqual(held, keeps_table(best, state, values))
                    # Here 80 moves are enough, whatever the rules are.
                    self.assertEqual(held, is_held_for(web, state, values, 80))
        self.assertTrue(100 < sum(found) < len(found) - 100, (sum(found), len(found)))

    def test_answers(self):
        draw = random.Random(11)
        answers, fewer = 0, 0
        for web in some_webs(draw, 120):
            best = court.best_table(web)
            if len(web.quantities) != 1:
                continue
            for at, (_, start, end, rules) in enumerate(web.moves):
                for old, new in product(range(-5, 6, 2), range(-6, 7)):
                    if keeps_table(best, start, (old,)):
                        right = is_answer(web, best, (old,), at, (new,))
                        self.assertEqual(right, keeps(rules, (old,), (new,)) and court.holds_ever(web, end, (new,)))
                        answers += right
            for _ in range(20):
                table = tuple([draw.choice((None, random_closed(draw, 1, -3, 2))) for _ in web.states])
                if is_table(web, table):
                    for at, (_, start, _, _) in enumerate(web.moves):
                        for old, new in product(range(-5, 6, 2), range(-6, 7)):
                            if keeps_table(table, start, (old,)) and is_answer(web, table, (old,), at, (new,)):
                                self.assertIs(is_answer(web, best, (old,), at, (new,)), True)
                                fewer += 1
        self.assertTrue(answers > 200 and fewer > 200, (answers, fewer))

    def test_webs_that_hold_the_same(self):
        draw = random.Random(7)
        for _ in range(60):
            web = random_web(draw, 2, 3, 5, 3, -3, 1)
            other = without_moves(web, idle_moves(web))
            pieces = [(), *pieces_of(web)]
            for values in product((-3, 0, 2), repeat=2):
                held = [court.holds_ever(web, state, values) for state in range(3)]
                self.assertEqual([court.holds_ever(other, state, values) for state in range(3)], held)
                for lot in alike_states(web):
                    self.assertEqual(len({held[state] for state in lot}), 1)
                self.assertEqual(held, [all([court.holds_ever(web_of(web, lot), state, values_of(values, lot)) for lot in pieces])
                                        for state in range(3)])

    def test_great(self):
        draw = random.Random(8)
        rules = tuple([("rise", at, at, 0) for at in range(1, 7)] + [("now", at, 0, -10 ** 6) for at in range(1, 7)])
        still = Web(NAMES, STATES, tuple([("m", at % 8, (at + 3) % 8, rules) for at in range(40)]))
        for web in (drifting_web(), still, great_web(draw, -10 ** 6, 10 ** 6), great_web(draw, -5, 0), great_web(draw, -10 ** 6, -999990)):
            self.assertIs(court.is_verdict(web, court.court(web)), True)
            self.assertIs(court.is_verdict_at(web, 5, court.verdict_at(web, 5)), True)
            best = court.best_table(web)
            self.assertIs(is_table(web, best), True)
            self.assertEqual(court.holds_ever(web, 5, (-10 ** 9,) * 6), keeps_table(best, 5, (-10 ** 9,) * 6))
            self.assertEqual(court.kept_states(web), tuple([state for state in range(8) if best[state] is not None]))
        self.assertEqual([court.holds_ever(still, 2, (value,) * 6) for value in (10 ** 6, 10 ** 6 + 1)], [True, False])


class Points57And58(unittest.TestCase):
    def amount_web(self, draw):
        moves = []
        for _ in range(3):
            low = draw.randint(-2, 1)
            ranges = ((low, low + draw.randrange(3)),)[:draw.choice((1, 1, 0))]
            rules = tuple([(draw.choice(("rise", "fall", "now")), draw.randrange(2), draw.randrange(2), draw.randint(-4, 0),
                            tuple([draw.randint(-1, 1) for _ in ranges])) for _ in range(draw.randrange(4))])
            moves.append(("m", draw.randrange(2), draw.randrange(2), ranges, rules))
        return AmountWeb(("x",), ("a", "b"), tuple(moves))

    def test_example(self):
        near = (("rise", 1, 1, -1, (1,)), ("fall", 1, 1, -1, (-1,)), ("now", 0, 1, 0, (0,)), ("now", 1, 0, -4, (0,)))
        flow = AmountWeb(("level",), ("now", "then"), (("push", 0, 1, ((-2, 2),), near),))
        self.assertEqual([court.holds_ever(corner_web(flow), 0, (x,)) for x in (0, 1, 3, 4)], [False, True, True, False])
        self.assertIs(court.holds_ever(unseen_web(flow), 0, (2,)), False)

    def held_by_trial(self, web, seen, most):
        """The values from -4 to 4 held for so many moves, of those that stay there, if all amounts may come."""
        span = range(-4, 5)
        held = [list(span) for _ in web.states]
        for _ in range(most):
            behind = []
            for state in range(len(web.states)):
                kept = []
                for old in held[state]:
                    right = True
                    for at, (_, start, end, ranges, _) in enumerate(web.moves):
                        if start == state:
                            amounts = list(product(*[range(low, high + 1) for low, high in ranges]))
                            let = [[new for new in held[end] if keeps(rules_at(web, at, told_amounts), (old,), (new,))]
                                   for told_amounts in amounts]
                            both = [set(news) for news in let]
                            right = right and (all(both) if seen else bool(set.intersection(*both)))
                    if right:
                        kept.append(old)
                behind.append(kept)
            held = behind
        return held

    def test_all_amounts(self):
        draw = random.Random(9)
        found = [0, 0]
        for _ in range(150):
            web = self.amount_web(draw)
            for seen, plain in ((True, corner_web(web)), (False, unseen_web(web))):
                boxed = boxed_web(plain, ((-4, 4),))
                held = self.held_by_trial(web, seen, 20)
                for state in (0, 1):
                    if [move for move in web.moves if move[1] == state]:
                        for old in range(-4, 5):
                            ever = court.holds_ever(boxed, state, (old,))
                            self.assertEqual(ever, old in held[state], (web.moves, seen, state, old))
                            found[ever] += 1
        self.assertTrue(min(found) > 300, found)

    def test_answers_between(self):
        draw = random.Random(10)
        answered = 0
        for _ in range(150):
            web = self.amount_web(draw)
            plain = corner_web(web)
            best = court.best_table(plain)
            places = corner_places(web)
            for at, (_, start, end, ranges, _) in enumerate(web.moves):
                old = (draw.randint(-4, 4),)
                if not keeps_table(best, start, old):
                    continue
                corners = [place for place, (move, _) in enumerate(places) if move == at]
                news = []
                for place in corners:
                    news.append([new for new in product(range(-9, 10)) if keeps(plain.moves[place][3], old, new) and keeps_rows(best[end], new)])
                if all(news):
                    for amounts in product(*[range(low, high + 1) for low, high in ranges]):
                        new = between_answer(web, at, amounts, tuple([draw.choice(choice) for choice in news]))
                        self.assertTrue(keeps(rules_at(web, at, amounts), old, new))
                        self.assertTrue(keeps_rows(best[end], new))
                        answered += 1
        self.assertGreater(answered, 200)


if __name__ == "__main__":
    unittest.main()
