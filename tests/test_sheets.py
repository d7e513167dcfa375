import random
import unittest

from heldalways import sheets
from heldalways.amounts import AmountWeb
from heldalways.court import holds_ever
from heldalways.sheets import Sheet
from heldalways.webs import Web
from helping import drifting_web, great_web, random_web
from odd import ODD, STRANGE, spoiled, told
from test_tables import TANK


class Point75(unittest.TestCase):
    def test_attributes(self):
        for value in ODD:
            made = Sheet(value, value, value)
            self.assertTrue(made.web is value and made.state is value and made.said is value)
        made = Sheet(web=1, state=2, said=3)
        self.assertEqual((made.web, made.state, made.said), (1, 2, 3))

    def test_equality(self):
        one = Sheet(TANK, 1, (3,))
        self.assertTrue(one == Sheet(Web(TANK.quantities, TANK.states, TANK.moves), 1, (3,)))
        self.assertFalse(one != Sheet(TANK, 1, (3,)))
        for other in (Sheet(Web(("level",), ("dry", "wet"), ()), 1, (3,)), Sheet(TANK, 0, (3,)), Sheet(TANK, 1, (4,)), Sheet(None, 1, (3,))):
            self.assertFalse(one == other)
            self.assertTrue(one != other)
        for value in [*STRANGE, None, 0, (), TANK, (TANK, 1, (3,))]:
            if told(value) not in ("Yes", "Loud"):
                self.assertFalse(one == value)
        self.assertTrue(Sheet(None, "a", ()) == Sheet(None, "a", ()))

    def test_is_sheet(self):
        for state, said, right in ((0, (10 ** 9,), True), (1, (5,), True), (1, (6,), False), (1, (-10 ** 9,), True), (0, (10 ** 9 + 1,), False),
                                   (2, (3,), False), (-1, (3,), False), (True, (3,), False), (1, (True,), False), (1, [3], False), (1, (3, 3), False),
                                   (1, (), False), (1, (3.0,), False), (1, None, False), (None, (3,), False)):
            self.assertIs(sheets.is_sheet(Sheet(TANK, state, said)), right, (state, told(said)))
        self.assertIs(sheets.is_sheet(Sheet(Web((), ("a",), ()), 0, ())), True)
        self.assertIs(sheets.is_sheet(Sheet(Web((), ("a",), (("m", 0, 0, (("now", 0, 0, 1),)),)), 0, ())), False)
        self.assertIs(sheets.is_sheet(Sheet(AmountWeb((), ("a",), ()), 0, ())), False)

    def test_any_value(self):
        for value in [*ODD, TANK]:
            self.assertIs(sheets.is_sheet(value), False)
            self.assertIs(sheets.is_sheet(Sheet(TANK, 1, value)), told(value) == "(0)")
            self.assertIs(sheets.is_sheet(Sheet(TANK, value, (5,))), told(value) in ("0", "1"))
            self.assertIs(sheets.is_sheet(Sheet(value, 1, (5,))), value is TANK)
        for wrong in spoiled((5,), STRANGE + [None, 6]):
            self.assertIs(sheets.is_sheet(Sheet(TANK, 1, wrong)), False)

    def test_by_trial(self):
        draw = random.Random(1)
        found = []
        for _ in range(200):
            web = random_web(draw, draw.choice((0, 1, 2)), 2, 3, 3, -3, 1)
            values = tuple([draw.randint(-3, 3) for _ in web.quantities])
            for state in (0, 1):
                found.append(holds_ever(web, state, values))
                self.assertIs(sheets.is_sheet(Sheet(web, state, values)), found[-1])
        self.assertTrue(50 < sum(found) < len(found) - 50, sum(found))

    def test_great(self):
        draw = random.Random(2)
        for web in (drifting_web(), great_web(draw, -5, 0)):
            for said in ((0,) * 6, (-10 ** 9,) * 6):
                self.assertIs(sheets.is_sheet(Sheet(web, 3, said)), holds_ever(web, 3, said))


if __name__ == "__main__":
    unittest.main()
