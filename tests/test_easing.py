import random
import unittest

from heldalways import easing
from heldalways.attacks import Heavy, is_attack
from heldalways.court import Controller, holds_ever, is_controller
from heldalways.errors import InvalidValues
from heldalways.tables import keeps_table
from heldalways.webs import Web
from helping import drifting_web, great_web, random_web
from odd import ODD, STRANGE, told
from test_repairs import TANK
from test_settle import rising_web


class Point72(unittest.TestCase):
    def test_example(self):
        self.assertEqual((easing.least_easing(TANK, 0, (3,)), easing.least_easing(TANK, 0, (6,)), easing.least_easing(TANK, 0, (-10 ** 9,))), (2, 2, None))

    def test_eased_web(self):
        web = Web(("x",), ("a",), (("m", 0, 0, (("rise", 1, 1, 5), ("now", 0, 1, -999998), ("fall", 0, 0, -10 ** 6))),))
        self.assertEqual(easing.eased_web(web, 3).moves[0][3], (("rise", 1, 1, 2), ("now", 0, 1, -10 ** 6), ("fall", 0, 0, -10 ** 6)))
        self.assertEqual(easing.eased_web(web, 0), web)
        self.assertEqual([rule[3] for rule in easing.eased_web(web, 2 * 10 ** 6).moves[0][3]], [-10 ** 6] * 3)
        self.assertEqual([rule[3] for rule in easing.eased_web(web, 10 ** 30).moves[0][3]], [-10 ** 6] * 3)

    def test_values(self):
        for call in (easing.least_easing, easing.easing_papers):
            for value, at in ((None, -1), ([3], -1), ((3, 3), -1), ((10 ** 9 + 1,), 0), ((True,), 0)):
                with self.assertRaises(InvalidValues) as caught:
                    call(TANK, 0, value)
                self.assertEqual(caught.exception.at, at)
            for value in ODD:
                if told(value) != "(0)":
                    with self.assertRaises(InvalidValues, msg=told(value)):
                        call(TANK, 0, value)

    def test_by_trial(self):
        draw = random.Random(1)
        found = []
        for _ in range(150):
            many = draw.choice((0, 1, 2))
            web = rising_web(draw, 2, 2, 2, 3) if draw.random() < 0.4 else random_web(draw, many, 2, 3, 4, -3, 4)
            state = draw.randrange(2)
            values = tuple([draw.randint(-4, 4) for _ in web.quantities])
            held = [holds_ever(easing.eased_web(web, by), state, values) for by in range(40)]
            self.assertEqual(held, sorted(held))
            least = held.index(True) if True in held else None
            self.assertEqual(easing.least_easing(web, state, values), least)
            triple = easing.easing_papers(web, state, values)
            found.append(least)
            if least is None:
                self.assertIsNone(triple)
                continue
            self.assertIs(easing.is_least_easing(web, state, values, triple), True)
            by, controller, attack = triple
            self.assertEqual(by, least)
            self.assertIs(is_controller(easing.eased_web(web, by), controller), True)
            self.assertIs(keeps_table(controller.table, state, values), True)
            self.assertEqual(attack is None, by == 0)
            if by > 0:
                self.assertIs(is_attack(easing.eased_web(web, by - 1), state, values, attack), True)
            for other in (by - 1, by + 1, 0, 2 * 10 ** 6, 2 * 10 ** 6 + 1, -1, True, None):
                if told(other) != told(by):
                    self.assertIs(easing.is_least_easing(web, state, values, (other, controller, attack)), False)
            for wrong in ((by, controller), [by, controller, attack], (by, controller.table, attack), (by, None, attack), (by, attack, attack),
                          (by, Controller((None, None)), attack), (by, controller, Heavy((), 0)), (by, controller, 0), (by, controller, controller)):
                self.assertIs(easing.is_least_easing(web, state, values, wrong), False)
            self.assertIs(easing.is_least_easing(web, state, values, (by, controller, None)), by == 0)
        self.assertTrue(found.count(0) > 20 and len([by for by in found if by]) > 40, found)

    def test_none(self):
        # A rule that asks for too much of old values, however loose it is.
        deep = Web(("x",), ("a",), (("m", 0, 0, (("fall", 1, 0, 10 ** 6),)),))
        self.assertIsNone(easing.least_easing(deep, 0, (-10 ** 6 - 1,)))
        self.assertIsNone(easing.easing_papers(deep, 0, (-10 ** 6 - 1,)))
        self.assertEqual(easing.least_easing(deep, 0, (-10 ** 6,)), 2 * 10 ** 6)
        triple = easing.easing_papers(deep, 0, (-10 ** 6,))
        self.assertIs(easing.is_least_easing(deep, 0, (-10 ** 6,), triple), True)

    def test_any_value(self):
        right = easing.easing_papers(TANK, 0, (3,))
        self.assertIs(easing.is_least_easing(TANK, 0, (3,), right), True)
        self.assertIs(easing.is_least_easing(TANK, 0, (4,), right), easing.is_least_easing(TANK, 0, (4,), right))
        for value in [*ODD, *STRANGE, right[1], right[2]]:
            self.assertIs(easing.is_least_easing(TANK, 0, (3,), value), False)
            self.assertIs(easing.is_least_easing(TANK, 0, (3,), (value, *right[1:])), False)
            self.assertIs(easing.is_least_easing(TANK, 0, (3,), (right[0], value, right[2])), value is right[1])
            self.assertIs(easing.is_least_easing(TANK, 0, (3,), (*right[:2], value)), value is right[2])

    def test_great(self):
        draw = random.Random(2)
        for web in (drifting_web(), great_web(draw, -10 ** 6, 10 ** 6), great_web(draw, -5, 0), great_web(draw, -10 ** 6, -999990)):
            for values in ((0,) * 6, (10 ** 9, -10 ** 9) * 3):
                triple = easing.easing_papers(web, 3, values)
                self.assertEqual(None if triple is None else triple[0], easing.least_easing(web, 3, values))
                self.assertIs(triple is None or easing.is_least_easing(web, 3, values, triple), True)


if __name__ == "__main__":
    unittest.main()
