import random
import unittest
from itertools import product

from heldalways import promises
from heldalways.answers import is_answer
from heldalways.court import best_table, holds_ever
from heldalways.deeds import is_deed, sheet_after
from heldalways.errors import Refused
from heldalways.sheets import Sheet, is_sheet
from heldalways.webs import Web
from heldalways.wishes import least_distance
from helping import NAMES, STATES, great_web
from odd import ODD, told
from test_deeds import KEEP, PAIR, POUR, SHEET, open_sheets
from test_wishes import distance


class Promises(unittest.TestCase):
    def refused(self, word, call, *told_values):
        with self.assertRaises(Refused, msg=told(told_values)) as caught:
            call(*told_values)
        self.assertEqual(caught.exception.word, word, told(told_values))


class NearDeeds(Promises):
    def test_small(self):
        self.assertEqual([promises.near_deed(SHEET, 0, (wish,)) for wish in (0, 3, 9)], [("move", 0, (2,)), ("move", 0, (3,)), ("move", 0, (5,))])
        self.assertEqual(promises.move_deed(SHEET, 0), ("move", 0, (2,)))
        self.assertEqual(promises.move_deed(Sheet(Web((), ("a",), (("m", 0, 0, ()),)), 0, ()), 0), ("move", 0, ()))

    def test_errors(self):
        two = Web(("x",), ("a", "b"), (("m", 0, 1, ()), ("n", 1, 0, ())))
        sheet = Sheet(two, 1, (3,))
        for move in [*ODD, 2, -1]:
            if told(move) != "1":
                # The move ahead of the wish.
                for wish in ((3,), None):
                    self.refused("move", promises.near_deed, sheet, move, wish)
                self.refused("move", promises.move_deed, sheet, move)
        self.assertEqual(promises.near_deed(sheet, 1, (-4,)), ("move", 1, (-4,)))
        for wish in [*ODD, (3, 3), (10 ** 9 + 1,), (-10 ** 9 - 1,), (True,), [3], (None,)]:
            if told(wish) != "(0)":
                self.refused("wish", promises.near_deed, sheet, 1, wish)
        self.assertEqual(promises.near_deed(sheet, 1, (10 ** 9,)), ("move", 1, (10 ** 9,)))

    def test_beyond(self):
        # The level rises, from as far up as it may be.
        up = Web(("x", "y"), ("a", "b"), (("m", 0, 1, (("rise", 1, 1, 1),)), ("n", 0, 1, (("now", 1, 2, 7), ("rise", 1, 1, -9)))))
        for x, beyond in ((10 ** 9 - 1, False), (10 ** 9, True)):
            sheet = Sheet(up, 0, (x, 0))
            self.assertIs(is_sheet(sheet), True)
            if beyond:
                for wish in ((0, 0), (10 ** 9, 10 ** 9)):
                    self.refused("values", promises.near_deed, sheet, 0, wish)
                self.refused("values", promises.move_deed, sheet, 0)
                self.refused("wish", promises.near_deed, sheet, 0, (10 ** 9 + 1, 0))
            else:
                self.assertEqual(promises.near_deed(sheet, 0, (0, 5))[2][0], 10 ** 9)
        # Of two quantities each could go half of the way, but the one stands near the bound: the other one goes further.
        sheet = Sheet(up, 0, (10 ** 9, 0))
        self.assertEqual(promises.near_deed(sheet, 1, (10 ** 9 - 3, 10 ** 9 - 3)), ("move", 1, (10 ** 9 - 7, 10 ** 9)))
        self.assertIs(is_deed(sheet, ("move", 1, (10 ** 9 - 7, 10 ** 9))), True)
        # There are answers, but those with the least distance go beyond.
        self.refused("values", promises.near_deed, sheet, 1, (10 ** 9, 10 ** 9))
        self.refused("values", promises.near_deed, sheet, 1, (10 ** 9 - 2, 10 ** 9 - 2))
        both = Web(("x", "y"), ("a", "b"), (("m", 0, 1, (("now", 1, 2, 7), ("rise", 1, 1, 0))),))
        self.refused("values", promises.near_deed, Sheet(both, 0, (10 ** 9 - 6, 0)), 0, (10 ** 9, 10 ** 9))
        wish = (10 ** 9 - 7, 10 ** 9 - 7)
        self.assertEqual(promises.near_deed(Sheet(both, 0, (10 ** 9 - 7, 0)), 0, wish), ("move", 0, (10 ** 9 - 7, 10 ** 9)))

    def test_always_within_the_bound(self):
        # With a wish, and a least distance from it, that are together at most 10^9.
        draw = random.Random(4)
        for sheet in open_sheets(draw, 60):
            web = sheet.web
            for move in [at for at, told_move in enumerate(web.moves) if told_move[1] == sheet.state]:
                for size in (10 ** 9, 10 ** 9 - 3):
                    wish = tuple([draw.choice((-size, size)) for _ in sheet.said])
                    least = least_distance(web, best_table(web), sheet.said, move, wish)
                    if least + max([0, *map(abs, wish)]) <= 10 ** 9:
                        self.assertIs(is_deed(sheet, promises.near_deed(sheet, move, wish)), True)

    def test_by_trial(self):
        draw = random.Random(1)
        tried, near = 0, 0
        for sheet in open_sheets(draw, 250):
            web, state, said = sheet.web, sheet.state, sheet.said
            table = best_table(web)
            for move, (_, start, _, _) in enumerate(web.moves):
                wish = tuple([draw.randint(-6, 6) for _ in said])
                if start != state:
                    self.refused("move", promises.near_deed, sheet, move, wish)
                    continue
                for deed, wanted in ((promises.near_deed(sheet, move, wish), wish), (promises.move_deed(sheet, move), said)):
                    word, which, values = deed
                    self.assertEqual((word, which), ("move", move))
                    self.assertIs(is_deed(sheet, deed), True)
                    self.assertIs(is_answer(web, table, said, move, values), True)
                    self.assertEqual(distance(values, wanted), least_distance(web, table, said, move, wanted))
                    right = [new for new in product(range(-9, 10), repeat=len(said)) if is_answer(web, table, said, move, new)]
                    if right:
                        self.assertLessEqual(distance(values, wanted), min([distance(new, wanted) for new in right]))
                    tried += 1
                    near += values != wanted
        self.assertTrue(tried > 200 and near > 50, (tried, near))


class HeaviestRules(Promises):
    def test_examples(self):
        self.assertEqual(promises.heaviest_rule(Sheet(POUR, 0, (5,)), 0, "now", 0, 1), 5)
        self.assertEqual(promises.heaviest_rule(SHEET, 0, "rise", 1, 1), 0)
        self.assertEqual(promises.heaviest_rule(SHEET, 0, "now", 1, 0), -2)
        self.assertEqual(promises.heaviest_rule(SHEET, 0, "rise", 0, 0), 0)

    def test_errors(self):
        for move in [*ODD, -1, 2]:
            if told(move) not in ("0", "1"):
                for parts in (("rise", 0, 0), (None, None, None)):
                    self.refused("move", promises.heaviest_rule, PAIR, move, *parts)
        for value in ODD:
            if told(value) not in ("'rise'", "'now'"):
                self.refused("rule", promises.heaviest_rule, PAIR, 0, value, 0, 0)
            if told(value) not in ("0", "1"):
                self.refused("rule", promises.heaviest_rule, PAIR, 0, "fall", value, 0)
                self.refused("rule", promises.heaviest_rule, PAIR, 0, "fall", 0, value)
        self.refused("rule", promises.heaviest_rule, PAIR, 0, "fall", 3, 0)
        full = Web(("x",), ("a",), (("m", 0, 0, (("now", 0, 0, 0),) * 30), ("n", 0, 0, (("now", 0, 0, 0),) * 29)))
        sheet = Sheet(full, 0, (0,))
        self.refused("size", promises.heaviest_rule, sheet, 0, "now", 0, 1)
        self.refused("rule", promises.heaviest_rule, sheet, 0, "now", 0, 2)
        self.assertEqual(promises.heaviest_rule(sheet, 1, "now", 0, 1), 10 ** 6)

    def test_ends(self):
        deep = Sheet(Web(("x",), ("a", "b"), (("m", 0, 0, ()), ("far", 1, 1, ()))), 0, (-10 ** 9,))
        self.assertIsNone(promises.heaviest_rule(deep, 0, "fall", 1, 0))
        self.assertEqual(promises.heaviest_rule(Sheet(deep.web, 0, (-10 ** 6,)), 0, "fall", 1, 0), -10 ** 6)
        self.assertIsNone(promises.heaviest_rule(Sheet(deep.web, 0, (-10 ** 6 - 1,)), 0, "fall", 1, 0))
        # A move that never comes may be bound to anything.
        self.assertEqual(promises.heaviest_rule(deep, 1, "now", 0, 0), 10 ** 6)

    def test_by_trial(self):
        draw = random.Random(2)
        found = []
        for sheet in open_sheets(draw, 120):
            web = sheet.web
            for _ in range(3):
                move = draw.randrange(len(web.moves))
                begun = (draw.choice(("rise", "fall", "now")), draw.randint(0, len(sheet.said)), draw.randint(0, len(sheet.said)))
                heaviest = promises.heaviest_rule(sheet, move, *begun)
                found.append(heaviest)
                can = [is_deed(sheet, ("rule", move, (*begun, weight))) for weight in range(-25, 26)]
                self.assertEqual(can, [heaviest is not None and weight <= heaviest for weight in range(-25, 26)])
                if heaviest is not None and heaviest < 10 ** 6:
                    self.assertIs(is_sheet(sheet_after(sheet, ("rule", move, (*begun, heaviest)))), True)
                    self.assertIs(is_deed(sheet, ("rule", move, (*begun, heaviest + 1))), False)
        self.assertTrue(found.count(10 ** 6) > 10 and len([weight for weight in found if weight is not None and -25 < weight < 25]) > 50, found)

    def test_great(self):
        draw = random.Random(3)
        for web in (great_web(draw, -10 ** 6, -900000), Web(NAMES, STATES, tuple([("m", at % 8, 0, KEEP * 14) for at in range(40)]))):
            less = Web(web.quantities, web.states, tuple([(*move[:3], move[3][:29]) for move in web.moves]))
            sheet = Sheet(less, 0, (0,) * 6)
            if holds_ever(less, 0, (0,) * 6):
                promises.heaviest_rule(sheet, 0, "rise", 1, 2)
                move = [at for at, move in enumerate(less.moves) if move[1] == 0][0]
                deed = promises.near_deed(sheet, move, (10 ** 9,) * 6)
                self.assertIs(is_deed(sheet, deed), True)


if __name__ == "__main__":
    unittest.main()
