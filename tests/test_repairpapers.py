import random
import unittest

from heldalways import repairpapers, repairs
from heldalways.attacks import Heavy, is_attack
from heldalways.errors import InvalidNumber, InvalidValues, Refused
from heldalways.marks import used_moves, used_rules
from heldalways.quick import attack_on
from heldalways.repairpapers import PricePaper
from heldalways.webs import Web, reached
from helping import NAMES, STATES, drifting_web, great_web
from odd import ODD, STRANGE, told
from test_repairs import TANK, small_webs

ATTACK = attack_on(TANK, 0, (3,))
SUNNY = attack_on(Web(TANK.quantities, TANK.states, TANK.moves[1:]), 0, (3,))


def is_right(web, state, values, prices, striking, paper):
    """Whether rows of a paper are right, by the words of point 71."""
    lots = [lot for lot, _ in paper.rows]
    if lots != sorted(set(lots)) or paper.price > 0 and () not in lots:
        return False
    for lot, attack in paper.rows:
        used = (used_rules if striking else used_moves)(attack)
        if not is_attack(web, state, values, attack) or set(used) & set(lot):
            return False
        for part in used:
            wider = tuple(sorted({*lot, part}))
            price = len(wider) if striking else sum([prices[move] for move in wider])
            if wider not in lots and price < paper.price:
                return False
    return True


class Point71(unittest.TestCase):
    def test_class(self):
        for value in ODD:
            made = PricePaper(value, value)
            self.assertTrue(made.price is value and made.rows is value)
        made = PricePaper(price=1, rows=2)
        self.assertEqual((made.price, made.rows), (1, 2))

    def test_errors(self):
        for value in ODD:
            for call in (lambda: repairpapers.bar_paper(TANK, 0, value, None), lambda: repairpapers.strike_paper(TANK, 0, value)):
                if told(value) != "(0)":
                    with self.assertRaises(InvalidValues, msg=told(value)):
                        call()
            if told(value) != "(0, 0)":
                with self.assertRaises(InvalidNumber, msg=told(value)) as caught:
                    repairpapers.bar_paper(TANK, 0, (3,), value)
                self.assertEqual(caught.exception.word, "prices")
        eleven = Web(("x",), ("a",), (("m", 0, 0, (("rise", 1, 1, 0),)),) * 11)
        for call in (lambda: repairpapers.bar_paper(eleven, 0, (3,), None), lambda: repairpapers.strike_paper(eleven, 0, (3,))):
            with self.assertRaises(Refused) as caught:
                call()
            self.assertEqual(caught.exception.word, "size")

    def test_bars_by_trial(self):
        draw = random.Random(1)
        sizes = []
        for web, state, values in small_webs(draw, 120, 2):
            for most in (0, 1, 9):
                prices = tuple([draw.randint(0, most) for _ in web.moves])
                paper = repairpapers.bar_paper(web, state, values, prices)
                self.assertEqual(paper.price, repairs.bar_price(web, state, values, prices))
                self.assertIs(repairpapers.is_bar_paper(web, state, values, prices, paper), True)
                self.assertIs(is_right(web, state, values, prices, False, paper), True)
                sizes.append(len(paper.rows))
                # Nothing is shown that is not so: the price is not below that of any bar.
                higher = PricePaper(paper.price + 1, paper.rows)
                self.assertIs(repairpapers.is_bar_paper(web, state, values, prices, higher), False)
                self.spoil(web, state, values, prices, False, paper, draw)
        self.assertGreater(max(sizes), 4)

    def test_strikes_by_trial(self):
        draw = random.Random(2)
        sizes = []
        for web, state, values in small_webs(draw, 80, 4):
            near = reached(web, state)
            if sum([len(move[3]) for move in web.moves if move[1] in near]) > 8:
                continue
            paper = repairpapers.strike_paper(web, state, values)
            self.assertEqual(paper.price, repairs.fewest_strikes(web, state, values))
            self.assertIs(repairpapers.is_strike_paper(web, state, values, paper), True)
            self.assertIs(is_right(web, state, values, None, True, paper), True)
            self.assertIs(repairpapers.is_strike_paper(web, state, values, PricePaper(paper.price + 1, paper.rows)), False)
            sizes.append(len(paper.rows))
            self.spoil(web, state, values, None, True, paper, draw)
        self.assertGreater(max(sizes), 4)

    def spoil(self, web, state, values, prices, striking, paper, draw):
        def right(wrong):
            if striking:
                return repairpapers.is_strike_paper(web, state, values, wrong)
            return repairpapers.is_bar_paper(web, state, values, prices, wrong)
        rows = paper.rows
        for at in range(len(rows)):
            less = PricePaper(paper.price, rows[:at] + rows[at + 1:])
            self.assertIs(right(less), is_right(web, state, values, prices, striking, less))
            self.assertIs(right(PricePaper(paper.price, (*rows[:at], rows[at], *rows[at:]))), False)
            lot, attack = rows[at]
            used = (used_rules if striking else used_moves)(attack)
            for wrong in ((lot, None), (lot, Heavy((), 0)), (list(lot), attack), [lot, attack], (lot,), (lot, attack, attack), (None, attack),
                          ((*lot, draw.choice(used)), attack), (tuple(sorted({*lot, used[0]})), attack), ((*lot, 99), attack)):
                self.assertIs(right(PricePaper(paper.price, (*rows[:at], wrong, *rows[at + 1:]))), False)
        if len(rows) > 1:
            self.assertIs(right(PricePaper(paper.price, rows[::-1])), False)
        if paper.price > 0:
            self.assertIs(right(PricePaper(paper.price, ())), False)
            self.assertIs(right(PricePaper(paper.price - 1, rows)), True)
        self.assertIs(right(PricePaper(0, ())), True)
        for price in (-1, True, None, 1.0, "1"):
            self.assertIs(right(PricePaper(price, rows)), False)

    def test_any_value(self):
        paper = repairpapers.bar_paper(TANK, 0, (3,), (5, 2))
        self.assertEqual(paper.price, 7)
        for value in [*ODD, ATTACK, (paper.price, paper.rows)]:
            self.assertIs(repairpapers.is_bar_paper(TANK, 0, (3,), (5, 2), value), False)
            self.assertIs(repairpapers.is_strike_paper(TANK, 0, (3,), value), False)
            self.assertIs(repairpapers.is_bar_paper(TANK, 0, (3,), (5, 2), PricePaper(7, value)), False)
            self.assertIs(repairpapers.is_bar_paper(TANK, 0, (3,), (5, 2), PricePaper(7, (value,))), False)
            self.assertIs(repairpapers.is_bar_paper(TANK, 0, (3,), (5, 2), PricePaper(7, ((value, ATTACK),))), False)
            self.assertIs(repairpapers.is_bar_paper(TANK, 0, (3,), (5, 2), PricePaper(value, paper.rows)), told(value) in ("0", "1", "7"))
        for value in STRANGE:
            self.assertIs(repairpapers.is_strike_paper(TANK, 0, (3,), PricePaper(1, (((value,), ATTACK),))), False)
            self.assertIs(repairpapers.is_strike_paper(TANK, 0, (3,), PricePaper(1, ((((0, value),), ATTACK),))), False)

    def test_held_values(self):
        calm = Web(("x",), ("a",), ())
        self.assertEqual(repairpapers.bar_paper(calm, 0, (3,), ()).price, 0)
        self.assertIs(repairpapers.is_bar_paper(calm, 0, (3,), (), repairpapers.bar_paper(calm, 0, (3,), ())), True)
        self.assertIs(repairpapers.is_strike_paper(calm, 0, (3,), repairpapers.strike_paper(calm, 0, (3,))), True)

    def test_great(self):
        draw = random.Random(3)
        for web in (drifting_web(), great_web(draw, -10 ** 6, 10 ** 6)):
            few = Web(NAMES, STATES, web.moves[:10])
            prices = tuple([draw.randint(1, 10 ** 6) for _ in range(10)])
            paper = repairpapers.bar_paper(few, 0, (0,) * 6, prices)
            self.assertIs(repairpapers.is_bar_paper(few, 0, (0,) * 6, prices, paper), True)
        # Ten moves of which each two clash: as many rows as there may be.
        moves = []
        for at in range(10):
            moves.append(("m", 0, 0, (("rise", 1, 1, 1), ("rise", 1, 0, 0)) if at % 2 else (("rise", 1, 1, 0), ("rise", 1, 1, 1))))
        web = Web(("x",), ("a",), tuple(moves))
        paper = repairpapers.bar_paper(web, 0, (0,), (1,) * 10)
        self.assertEqual(paper.price, 5)
        self.assertIs(repairpapers.is_bar_paper(web, 0, (0,), (1,) * 10, paper), True)
        paper = repairpapers.strike_paper(Web(("x",), ("a",), tuple(moves[:5])), 0, (0,))
        self.assertIs(repairpapers.is_strike_paper(Web(("x",), ("a",), tuple(moves[:5])), 0, (0,), paper), True)


if __name__ == "__main__":
    unittest.main()
