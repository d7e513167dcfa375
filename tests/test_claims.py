import random
import unittest

from heldalways import claims, runs
from heldalways.amounts import AmountWeb
from heldalways.attacks import Heavy, is_attack
from heldalways.court import Controller, best_table, court, holds_ever, verdict_at
from heldalways.easing import easing_papers
from heldalways.faults import Fault, fault_of
from heldalways.judgment import judgment
from heldalways.leastroom import room_paper
from heldalways.pumps import Pump, Ring
from heldalways.quick import attack_on
from heldalways.repairpapers import bar_paper, strike_paper
from heldalways.sheets import Sheet
from heldalways.steps import broken_rules
from heldalways.tourpapers import best_items
from heldalways.webs import Web
from helping import NAMES, STATES, drifting_web, great_web
from odd import ODD, STRANGE, resized, spoiled, told
from test_court import PARTS, RING
from test_deeds import open_sheets
from test_pumps import RAINS, TANK as RAINY
from test_repairs import TANK as WEATHER
from test_rooms import PAIR, TANK as BATCHES
from test_runs import REFUSED, SHEET, is_right, random_run
from test_settle import some_webs
from test_tables import BEST, LOOSE, TANK, WET

POUR = SHEET.web
FREE = Sheet(Web(("x", "y"), ("a", "b"), (("m", 0, 1, (("now", 1, 2, 3),)),)), 0, (0, 0))


class Point83(unittest.TestCase):
    def test_right_runs(self):
        draw = random.Random(1)
        for sheet in open_sheets(draw, 100):
            commands = random_run(draw, sheet, 8)
            answers = runs.run_with_papers(sheet, commands)
            self.assertIsNone(claims.run_fault(sheet, commands, answers))
            # What lacks, and what is too much.
            for at in range(8):
                self.assertEqual(claims.run_fault(sheet, commands, answers[:at]), at)
            self.assertEqual(claims.run_fault(sheet, commands, (*answers, answers[-1])), 8)
            self.assertEqual(claims.run_fault(sheet, commands, (*answers, None, None)), 8)
        self.assertIsNone(claims.run_fault(SHEET, (), ()))
        self.assertEqual(claims.run_fault(SHEET, (), (None,)), 0)

    def test_spoilt(self):
        draw = random.Random(2)
        tried = {}
        for sheet in open_sheets(draw, 60):
            commands = random_run(draw, sheet, 6)
            answers = runs.run_with_papers(sheet, commands)
            for at, (command, (result, paper)) in enumerate(zip(commands, answers)):
                present = runs.sheet_of_run(sheet, commands[:at], [told_result for told_result, _ in answers[:at]])
                wrong = [(other, paper) for other in spoiled(result, STRANGE[:9] + [None, "odd", 10 ** 9 + 1, ()])]
                wrong += [(other, paper) for other in resized(result)]
                wrong += [(other, paper) for other in (("yes",), ("no",), ("did",), REFUSED, ("said", ()), ("now", "p", ()), ("ranges", ()))]
                wrong += [(result, other) for other in (None, 0, False, ("rule", 0), ("rule", 29), ("rule", True), RAINS, Heavy((), 0), ())]
                wrong += [None, result, (result,), [result, paper], (result, paper, paper), (paper, result)]
                for pair in wrong:
                    if told(pair) == told((result, paper)):
                        continue
                    spoilt = (*answers[:at], pair, *answers[at + 1:])
                    fault = claims.run_fault(sheet, commands, spoilt)
                    if self.may_be_right(present, command, result, pair):
                        self.assertTrue(fault is None or fault > at)
                    else:
                        self.assertEqual(fault, at, (command, told(pair)))
                    tried[result[0]] = tried.get(result[0], 0) + 1
        self.assertTrue(len(tried) == 7 and min(tried.values()) > 100, tried)

    def may_be_right(self, sheet, command, result, pair):
        """Whether another pair of an expected kind is right, too."""
        if not isinstance(pair, tuple) or len(pair) != 2:
            return False
        other, paper = pair
        if result[0] == "said":
            if paper is not None or not isinstance(other, tuple) or len(other) != 2 or not isinstance(other[1], tuple):
                return False
            pairs = other[1]
            if not isinstance(other[0], str) or other[0] != "said" or not all([isinstance(row, tuple) and len(row) == 2 for row in pairs]):
                return False
            if not all([isinstance(name, str) and type(number) is int for name, number in pairs]) or len(pairs) != len(sheet.said):
                return False
            return is_right(sheet, command, other)
        if told(other) != told(result):
            return False
        if result != ("no",):
            return paper is None
        if isinstance(paper, tuple):
            if command[0] != "may" or len(paper) != 2 or told(paper[0]) != "'rule'":
                return False
            values = tuple([dict(command[2])[name] for name in sheet.web.quantities])
            return type(paper[1]) is int and paper[1] in broken_rules(sheet.web, command[1], sheet.said, values)
        web, state, values = runs.place_asked(sheet, command)
        return is_attack(web, state, values, paper)

    def test_other_right_answers(self):
        # Any answer that is as near is right, and the run goes on from there.
        commands = (("wish", 0, (("x", 0), ("y", 1))), ("now",))
        for x, y, right in ((-1, 2, True), (0, 3, False), (-2, 1, False), (-1, 3, False), (0, 2, False)):
            answers = ((("said", (("x", x), ("y", y))), None), (("now", "b", (("x", x), ("y", y))), None))
            self.assertEqual(claims.run_fault(FREE, commands, answers), None if right else 0)
        wide = Sheet(Web(("x", "y"), ("a", "b"), (("m", 0, 1, (("now", 0, 1, 5),)), ("n", 1, 1, ()))), 0, (9, 0))
        commands = (("wish", 0, (("x", 0), ("y", 0))), ("now",), ("come", 1))
        for y in range(-5, 6):
            answers = ((("said", (("x", 5), ("y", y))), None), (("now", "b", (("x", 5), ("y", y))), None), (("said", (("x", 5), ("y", y))), None))
            self.assertIsNone(claims.run_fault(wide, commands, answers))
            self.assertEqual(claims.run_fault(wide, commands, (answers[0], (("now", "b", (("x", 5), ("y", y + 1))), None), answers[2])), 1)
        answers = ((("said", (("x", 5), ("y", 6))), None), (("now", "b", (("x", 5), ("y", 6))), None), (("said", (("x", 5), ("y", 6))), None))
        self.assertEqual(claims.run_fault(wide, commands, answers), 0)

    def test_distances(self):
        # What is wished for can be had, so nothing beside it is right; or it cannot, on both sides of the ground.
        for wish, nearest in ((4, 4), (9, 5), (-7, 2), (2, 2)):
            for said in range(-9, 10):
                answers = ((("said", (("level", said),)), None),)
                fault = claims.run_fault(SHEET, (("wish", 0, (("level", wish),)),), answers)
                self.assertEqual(fault, None if said == nearest else 0)
        low = Sheet(Web(("x", "y"), ("a",), (("m", 0, 0, (("now", 1, 0, 3), ("now", 0, 1, -9), ("now", 0, 2, -4))),)), 0, (-5, -4))
        for x in range(-9, 2):
            for y in range(-6, 2):
                answers = ((("said", (("x", x), ("y", y))), None),)
                fault = claims.run_fault(low, (("wish", 0, (("x", -1), ("y", -3))),), answers)
                # The nearest x is -3, two away; y may be as far.
                self.assertEqual(fault, None if x == -3 and -4 <= y <= -1 else 0)

    def test_denials(self):
        may = (("may", 0, (("level", 1),)),)
        both = runs.run_with_papers(SHEET, (("may", 0, (("level", 6),)),))[0]
        self.assertEqual(both, (("no",), ("rule", 1)))
        self.assertIsNone(claims.run_fault(SHEET, may, ((("no",), ("rule", 2)),)))
        for paper in (("rule", 0), ("rule", 1), ("rule", 3), ("rule", 2.0), ["rule", 2], ("rule",), None, attack_on(POUR, 0, (6,))):
            self.assertEqual(claims.run_fault(SHEET, may, ((("no",), paper),)), 0)
        # Of values that keep no rule and are not held, either one shows it.
        high = (("may", 0, (("level", 6),)),)
        self.assertIsNone(claims.run_fault(SHEET, high, ((("no",), attack_on(POUR, 0, (6,))),)))
        self.assertEqual(claims.run_fault(SHEET, high, ((("no",), ("rule", 0)),)), 0)
        self.assertEqual(claims.run_fault(SHEET, (("hold", "wet", (("level", 6),)),), ((("no",), ("rule", 1)),)), 0)

    def test_any_value(self):
        commands = (("come", 0), ("now",))
        for value in ODD:
            if isinstance(value, tuple):
                self.assertIn(claims.run_fault(SHEET, commands, value), (0, 1), told(value))
            else:
                self.assertEqual(claims.run_fault(SHEET, commands, value), 0)
            self.assertEqual(claims.run_fault(SHEET, commands, (value, value)), 0)
            self.assertEqual(claims.run_fault(SHEET, commands, ((value, None), value)), 0)
            self.assertEqual(claims.run_fault(SHEET, commands, ((("said", value), None), value)), 0)
            self.assertEqual(claims.run_fault(SHEET, commands, ((("said", (("level", value),)), None), value)), 0)
        right = runs.run_with_papers(SHEET, commands)
        for value in ODD:
            if value is not None:
                self.assertEqual(claims.run_fault(SHEET, commands, (right[0], (right[1][0], value))), 1)


class Point84(unittest.TestCase):
    def so(self, *parts):
        self.assertIs(claims.is_so(parts), True, told(parts))

    def wrong(self, *parts):
        self.assertIs(claims.is_so(parts), False, told(parts))

    def statements(self):
        """Statements of all words that are so."""
        roomed = ((1, 0, 9),)
        fault = fault_of(WET, LOOSE)
        answers = runs.run_with_papers(SHEET, (("may", 0, (("level", 6),)), ("come", 0)))
        return [
            ("items", RAINY, RAINS.excursions), ("items", TANK, ()), ("ring", PARTS, RING), ("pump", RAINY, RAINS), ("table", TANK, BEST), ("table", TANK, LOOSE),
            ("table", TANK, (None, None)), ("court", TANK, court(TANK)), ("court", RAINY, RAINS), ("judgment", PARTS, judgment(PARTS)),
            ("verdict", TANK, 1, Controller(BEST)), ("verdict", PARTS, 3, RING), ("fault", WET, LOOSE, fault), ("held", TANK, 1, (5,), BEST),
            ("attack", TANK, 1, (6,), attack_on(TANK, 1, (6,))), ("strike", WEATHER, 0, (3,), strike_paper(WEATHER, 0, (3,))),
            ("easing", WEATHER, 0, (3,), easing_papers(WEATHER, 0, (3,))), ("bar", WEATHER, 0, (3,), (5, 2), bar_paper(WEATHER, 0, (3,), (5, 2))),
            ("room", BATCHES, roomed, 0, 0, room_paper(BATCHES, roomed, 0, 0)), ("pair", SHEET, ("may", 0, (("level", 6),)), ("no",), ("rule", 1)),
            ("pair", SHEET, ("now",), ("now", "wet", (("level", 2),)), None), ("run", SHEET, (("may", 0, (("level", 6),)), ("come", 0)), answers),
            ("run", SHEET, (), ())]

    def test_so(self):
        words = set()
        for statement in self.statements():
            self.so(*statement)
            words.add(statement[0])
        self.assertEqual(len(words), 16)
        self.assertEqual(claims.not_so(tuple(self.statements())), ())

    def test_not_so(self):
        statements = self.statements()
        mixed = []
        for at, statement in enumerate(statements):
            mixed += [statement, (*statement, None), list(statement), statement[:-1], ("odd", *statement[1:]), (*statement[:-1], Pump((), 0, 0))]
        self.assertEqual(claims.not_so(tuple(mixed)), tuple([at for at in range(len(mixed)) if at % 6]))
        self.assertEqual(claims.not_so(()), ())

    def test_not_so_for_each(self):
        self.wrong("items", RAINY, RAINS.excursions[::-1])
        self.wrong("items", TANK, RAINS.excursions)
        self.wrong("ring", PARTS, RAINS)
        self.wrong("pump", RAINY, Pump(RAINS.excursions, 0, 1))
        self.wrong("pump", PARTS, RING)
        self.wrong("table", TANK, (BEST[0], None))
        self.wrong("table", WET, LOOSE)
        self.wrong("court", TANK, Controller((None, None)))
        self.wrong("court", TANK, BEST)
        self.wrong("judgment", TANK, judgment(WET))
        self.wrong("verdict", PARTS, 1, RING)
        for state in (4, -1, True, None, "d"):
            self.wrong("verdict", PARTS, state, RING)
        self.wrong("fault", TANK, LOOSE, fault_of(WET, LOOSE))
        self.wrong("fault", WET, LOOSE, Fault(2, ()))
        # A fault of what is no table.
        self.so("fault", WET, (LOOSE[0], None), Fault(0, ()))
        self.wrong("fault", WET, [LOOSE[0], None], Fault(0, ()))
        self.wrong("fault", WET, (LOOSE[0],), Fault(0, ()))
        self.wrong("fault", WET, (((0, 1), (0, 0)), None), Fault(0, ()))
        self.wrong("held", TANK, 1, (6,), BEST)
        self.wrong("held", TANK, 1, (5,), (BEST[0], None))
        self.wrong("held", WET, 1, (5,), LOOSE)
        attack = attack_on(TANK, 1, (6,))
        for state, values in ((0, (6,)), (1, (5,)), (2, (6,)), (True, (6,)), (1, (10 ** 9 + 1,)), (1, [6]), (1, (6, 6)), (1, None), (1, (True,))):
            self.wrong("attack", TANK, state, values, attack)
        self.so("attack", TANK, 1, (10 ** 9,), attack)
        self.wrong("strike", WEATHER, 0, (10 ** 9 + 1,), strike_paper(WEATHER, 0, (3,)))
        self.wrong("easing", WEATHER, 1, (3,), easing_papers(WEATHER, 0, (3,)))
        paper = bar_paper(WEATHER, 0, (3,), (5, 2))
        for prices in ((5, 1), (5,), (5, 2, 1), [5, 2], (5, -2), (5, 10 ** 6 + 1), None, (True, 2)):
            self.wrong("bar", WEATHER, 0, (3,), prices, paper)
        self.wrong("bar", WEATHER, 1, (3,), (5, 2), paper)
        self.wrong("bar", WEATHER, 0, (3, 3), (5, 2), paper)
        self.so("bar", WEATHER, 0, (3,), (5, 3), paper)

    def test_rooms(self):
        roomed = ((1, 0, 9), (1, 0, 7))
        paper = room_paper(BATCHES, roomed, 1, 0)
        self.so("room", BATCHES, roomed, 1, 0, paper)
        self.wrong("room", BATCHES, ((1, 0, 7),), 0, 0, room_paper(BATCHES, ((0, 1, 7),), 0, 0))
        for rooms, place, state in (((), 0, 0), (roomed, 2, 0), (roomed, -1, 0), (roomed, True, 0), (roomed, 1, 2), (roomed, 1, None), (list(roomed), 1, 0),
                                    (((1, 1, 9), (1, 0, 7)), 1, 0), (((1, 0, -1), (1, 0, 7)), 1, 0)):
            self.wrong("room", BATCHES, rooms, place, state, paper)
        # Too many rules: its function raises an error.
        self.wrong("room", PAIR, ((1, 0, 9),) * 30, 0, 0, paper)

    def test_sheets(self):
        now = ("now",)
        def stated(sheet, commands=(now,)):
            return ("run", sheet, commands, runs.run_with_papers(sheet, commands))
        for weight, right in ((-1000, True), (-1001, False)):
            sheet = Sheet(Web(("x",), ("a",), (("m", 0, 0, (("now", 1, 0, weight),)),)), 0, (0,))
            self.assertIs(claims.is_so(stated(sheet)), right)
            self.assertIs(claims.is_so(("pair", sheet, now, ("now", "a", (("x", 0),)), None)), right)
        for value, right in ((10 ** 8, True), (-10 ** 8, True), (10 ** 8 + 1, False), (-10 ** 8 - 1, False)):
            self.assertIs(claims.is_so(stated(Sheet(Web(("x",), ("a",), ()), 0, (value,)))), right)
        self.wrong("run", Sheet(POUR, 0, (6,)), (), ())
        self.wrong("run", POUR, (), ())
        self.wrong("pair", Sheet(POUR, 0, (6,)), now, ("now", "wet", (("level", 6),)), None)
        self.assertIs(claims.is_so(stated(SHEET, (now,) * 60)), True)
        self.assertIs(claims.is_so(stated(SHEET, (now,) * 61)), False)
        for commands in ([now], ((),), (("now", 1),), (None,), ("now",), (("come", 40),), None, (("come", True),)):
            self.wrong("run", SHEET, commands, ((("now", "wet", (("level", 2),)), None),))
            if commands != now:
                self.wrong("pair", SHEET, commands, ("now", "wet", (("level", 2),)), None)
        self.wrong("run", SHEET, (now,), ())
        self.wrong("run", SHEET, (now,), [(("now", "wet", (("level", 2),)), None)])

    def test_any_value(self):
        for value in ODD:
            self.assertIs(claims.is_so(value), False)
            for word in claims.PARTS:
                self.wrong(word)
                self.wrong(word, value)
                self.wrong(word, *[value] * claims.PARTS[word])
        for statement in self.statements():
            for at in range(len(statement)):
                for value in [*STRANGE, None, 10 ** 400, -1, "odd", (None,), RAINS, RING, AmountWeb((), ("a",), ()), Ring((), 0, None, 0, ())]:
                    changed = (*statement[:at], value, *statement[at + 1:])
                    if told(changed) != told(statement) and not (statement[0] == "pair" and at == 4 and value is None):
                        # A judge of another web, or papers beside the point, are never so.
                        self.assertIs(claims.is_so(changed), False, told(changed))

    def test_by_functions(self):
        draw = random.Random(3)
        for web in some_webs(draw, 40):
            values = tuple([draw.randint(-4, 4) for _ in web.quantities])
            best = best_table(web)
            self.so("items", web, best_items(web, 3)[0])
            self.so("table", web, best)
            self.so("court", web, court(web))
            self.so("judgment", web, judgment(web))
            for state in range(len(web.states)):
                self.so("verdict", web, state, verdict_at(web, state))
                held = holds_ever(web, state, values)
                self.assertIs(claims.is_so(("held", web, state, values, best)), held)
                attack = attack_on(web, state, values)
                self.assertIs(claims.is_so(("attack", web, state, values, attack)), not held)
                triple = easing_papers(web, state, values)
                self.assertIs(claims.is_so(("easing", web, state, values, triple)), triple is not None)

    def test_great(self):
        draw = random.Random(4)
        for web in (drifting_web(), great_web(draw, -10 ** 6, 10 ** 6), great_web(draw, -5, 0)):
            self.so("judgment", web, judgment(web))
            self.so("court", web, court(web))
            items, _ = best_items(web, 20)
            self.so("items", web, items)
            attack = attack_on(web, 3, (10 ** 9,) * 6)
            self.assertIs(claims.is_so(("attack", web, 3, (10 ** 9,) * 6, attack)), attack is not None)
        self.assertEqual(len(claims.not_so((None,) * 5000)), 5000)
        self.assertEqual((NAMES[0], STATES[0]), ("a", "p"))


if __name__ == "__main__":
    unittest.main()
