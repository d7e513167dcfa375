import random
import unittest
from itertools import combinations

from heldalways import leaving, repairs
from heldalways.attacks import is_attack
from heldalways.court import holds_ever
from heldalways.errors import InvalidNumber, InvalidValues, Refused
from heldalways.marks import used_moves, used_rules
from heldalways.quick import attack_on
from heldalways.webs import Web, reached, without_moves
from helping import NAMES, STATES, drifting_web, great_web, random_web
from odd import ODD, STRANGE, resized, spoiled, told

KEEP = (("now", 0, 1, 0), ("now", 1, 0, -5))
RAIN, SUN = ("rain", 0, 0, KEEP + (("rise", 1, 1, 1),)), ("sun", 0, 0, KEEP + (("fall", 1, 1, 2),))
TANK = Web(("level",), ("wet",), (RAIN, SUN))


def without(web, lot):
    """The web without a lot of rules."""
    return Web(web.quantities, web.states, tuple([(*move[:3], tuple([rule for number, rule in enumerate(move[3]) if (at, number) not in lot]))
                                                  for at, move in enumerate(web.moves)]))


def lots(parts):
    return [lot for size in range(len(parts) + 1) for lot in combinations(parts, size)]


def linked_web(draw, many, moves, rules):
    """A web with bounds at some moves and changes at others: attacks use several."""
    told_moves = []
    states = draw.choice((1, 1, 2))
    for _ in range(moves):
        row = []
        for _ in range(draw.randint(1, rules)):
            one, other = draw.randint(1, many), draw.randint(1, many)
            row.append(draw.choice((("rise", one, other, draw.randint(0, 1)), ("rise", one, one, 1), ("now", one, 0, -draw.randint(0, 4)),
                                    ("rise", one, 0, -draw.randint(0, 4)), ("fall", one, 0, draw.randint(-4, 0)), ("fall", one, one, 1))))
        told_moves.append(("m", draw.randrange(states), draw.randrange(states), tuple(row)))
    return Web(("x", "y")[:many], ("a", "b")[:states], tuple(told_moves))


def small_webs(draw, wanted, rules):
    for _ in range(wanted):
        many = draw.choice((1, 1, 2))
        if draw.random() < 0.2:
            web = random_web(draw, many, draw.choice((1, 2)), 2 if rules > 2 else 5, rules, -3, 2)
        else:
            web = linked_web(draw, many, 6, 1) if rules == 2 else linked_web(draw, many, 3, 3)
        yield web, draw.randrange(len(web.states)), tuple([draw.randint(-3, 3) for _ in range(many)])


def lean_by_trial(parts, is_enough):
    """All lots that are enough, with none that is enough within them."""
    found = []
    for lot in lots(parts):
        if not any([set(other) <= set(lot) for other in found]) and is_enough(lot):
            found.append(lot)
    return tuple(sorted(found))


class Repairs(unittest.TestCase):
    def test_example(self):
        self.assertEqual((repairs.lean_bars(TANK, 0, (3,)), repairs.cheapest_bar(TANK, 0, (3,), (5, 2)), repairs.is_bar(TANK, 0, (6,), (0, 1))),
                         (((0, 1),), (0, 1), True))
        self.assertEqual((repairs.fewest_strikes(TANK, 0, (3,)), repairs.lean_strikes(TANK, 0, (3,))),
                         (2, (((0, 1), (1, 0)), ((0, 1), (1, 2)), ((0, 2), (1, 0)), ((0, 2), (1, 2)))))

    def test_values(self):
        calls = [lambda value: repairs.is_bar(TANK, 0, value, ()), lambda value: repairs.is_strike(TANK, 0, value, None),
                 lambda value: repairs.lean_bars(TANK, 0, value), lambda value: repairs.lean_strikes(TANK, 0, value),
                 lambda value: repairs.fewest_strikes(TANK, 0, value), lambda value: repairs.cheapest_bar(TANK, 0, value, None),
                 lambda value: repairs.bar_price(TANK, 0, value, None)]
        for call in calls:
            for value, at in ((None, -1), ([3], -1), ((3, 3), -1), ((10 ** 9 + 1,), 0), ((True,), 0), ((None,), 0)):
                with self.assertRaises(InvalidValues) as caught:
                    call(value)
                self.assertEqual(caught.exception.at, at)
            for value in ODD:
                if told(value) != "(0)":
                    with self.assertRaises(InvalidValues, msg=told(value)):
                        call(value)

    def test_size(self):
        def refused(word, call, *told_values):
            with self.assertRaises(Refused if word == "size" else InvalidNumber) as caught:
                call(*told_values)
            self.assertEqual(caught.exception.word, word)
        step = ("m", 0, 0, (("rise", 1, 1, 0),))
        ten = Web(("x",), ("a", "b"), (step,) * 10 + (("far", 1, 1, ()), ("far", 1, 0, ()), ("far", 1, 0, (("now", 0, 0, 0),))))
        eleven = Web(("x",), ("a", "b"), (step,) * 11)
        bridged = Web(("x",), ("a", "b"), (step,) * 9 + (("m", 0, 1, ()), ("m", 1, 1, ())))
        self.assertEqual(repairs.lean_bars(ten, 0, (0,)), ((),))
        self.assertEqual(repairs.lean_bars(eleven, 1, (0,)), ((),))
        for web in (eleven, bridged):
            refused("size", repairs.lean_bars, web, 0, (0,))
            for prices in ((1,) * 11, None, (1,)):
                refused("size", repairs.cheapest_bar, web, 0, (0,), prices)
                refused("size", repairs.bar_price, web, 0, (0,), prices)
            # The values come ahead of the size.
            for call in (repairs.lean_bars, repairs.lean_strikes, repairs.fewest_strikes):
                with self.assertRaises(InvalidValues):
                    call(web, 0, (0, 0))
            with self.assertRaises(InvalidValues):
                repairs.cheapest_bar(web, 0, (None,), None)
        self.assertEqual((repairs.lean_strikes(ten, 0, (0,)), repairs.fewest_strikes(ten, 0, (0,))), (((),), 0))
        refused("size", repairs.lean_strikes, eleven, 0, (0,))
        refused("size", repairs.fewest_strikes, eleven, 0, (0,))
        # Those that find nothing take webs of any size.
        self.assertIs(repairs.is_bar(eleven, 0, (0,), (3,)), True)
        self.assertIs(repairs.is_strike(eleven, 0, (0,), ((3, 0),)), True)

    def test_prices(self):
        for call in (repairs.cheapest_bar, repairs.bar_price):
            for value in [*ODD, (1,), (1, 2, 3), (1, -1), (1, 10 ** 6 + 1), (True, 1), [1, 2], (1, 2.0)]:
                if told(value) != "(0, 0)":
                    with self.assertRaises(InvalidNumber, msg=told(value)) as caught:
                        call(TANK, 0, (3,), value)
                    self.assertEqual(caught.exception.word, "prices")
            call(TANK, 0, (3,), (0, 10 ** 6))
        self.assertEqual(repairs.bar_price(TANK, 0, (3,), (5, 2)), 7)
        self.assertEqual(repairs.bar_price(TANK, 0, (3,), (0, 0)), 0)

    def test_is_bar(self):
        for value, right in (((), False), ((0,), False), ((1,), False), ((0, 1), True), ((1, 0), False), ((0, 0, 1), False), ([0, 1], False),
                             ((0, 1, 2), False), ((-1, 0, 1), False), ((False, 1), False), ((0, True), False)):
            self.assertIs(repairs.is_bar(TANK, 0, (3,), value), right, told(value))
        for value in [*ODD, *spoiled((0, 1), STRANGE + [None]), *resized((0, 1))]:
            self.assertIs(repairs.is_bar(TANK, 0, (3,), value), False, told(value))
        calm = Web(("level",), ("wet",), (SUN, ("m", 0, 0, ())))
        self.assertEqual([repairs.is_bar(calm, 0, (3,), lot) for lot in ((), (0,), (1,), (0, 1))], [False, True, False, True])

    def test_is_strike(self):
        for value, right in ((((0, 1), (1, 0)), True), (((0, 1), (0, 2), (1, 0)), True), (((1, 0), (0, 1)), False), (((0, 1),), False), ((), False),
                             (((0, 1), (0, 1), (1, 0)), False), (((0, 1), (1, 3)), False), (((0, 1), (2, 0)), False), (((0, 1), [1, 0]), False),
                             ([(0, 1), (1, 0)], False), (((0, True), (1, 0)), False), (((0, 1), (1, -1)), False), (((0, 1), (1,)), False)):
            self.assertIs(repairs.is_strike(TANK, 0, (3,), value), right, told(value))
        for value in [*ODD, *spoiled(((0, 1), (1, 0)), STRANGE + [None]), *resized(((0, 1), (1, 0)))]:
            self.assertIs(repairs.is_strike(TANK, 0, (3,), value), False, told(value))

    def test_bars_by_trial(self):
        draw = random.Random(1)
        sizes = []
        for web, state, values in small_webs(draw, 200, 2):
            parts = range(len(web.moves))
            right = {lot for lot in lots(parts) if holds_ever(without_moves(web, lot), state, values)}
            for lot in lots(parts):
                self.assertIs(repairs.is_bar(web, state, values, lot), lot in right)
            lean = lean_by_trial(parts, lambda lot: lot in right)
            self.assertEqual(repairs.lean_bars(web, state, values), lean)
            for most in (1, 3, 10 ** 6):
                prices = tuple([draw.randint(0, most) for _ in parts])
                least = min([sum([prices[move] for move in lot]) for lot in right])
                self.assertEqual(repairs.bar_price(web, state, values, prices), least)
                found = repairs.cheapest_bar(web, state, values, prices)
                self.assertIn(found, right)
                self.assertEqual(sum([prices[move] for move in found]), least)
            sizes.append(len(lean))
            # A lot of moves is a bar exactly if each right attack uses a move of it.
            attack = attack_on(web, state, values)
            self.assertEqual(attack is None, () in right)
            if attack is not None:
                self.assertTrue(all([set(lot) & set(used_moves(attack)) for lot in right]))
        self.assertTrue(max(sizes) > 4 and len([size for size in sizes if size > 1]) > 40, sizes)

    def test_strikes_by_trial(self):
        draw = random.Random(2)
        sizes = []
        for web, state, values in small_webs(draw, 120, 4):
            near = reached(web, state)
            parts = [(at, number) for at, move in enumerate(web.moves) for number in range(len(move[3])) if move[1] in near]
            if len(parts) > 8:
                continue
            # Parts of other moves are in no lean lot.
            lean = lean_by_trial(parts, lambda lot: holds_ever(without(web, lot), state, values))
            self.assertEqual(repairs.lean_strikes(web, state, values), lean)
            self.assertEqual(repairs.fewest_strikes(web, state, values), min([len(lot) for lot in lean]))
            for lot in lean:
                self.assertIs(repairs.is_strike(web, state, values, lot), True)
            sizes.append(len(lean))
            attack = attack_on(web, state, values)
            if attack is not None:
                self.assertTrue(all([set(lot) & set(used_rules(attack)) for lot in lean]))
        self.assertTrue(max(sizes) > 4 and len([size for size in sizes if size > 1]) > 40, sizes)

    def test_attacks_without_a_lot(self):
        draw = random.Random(3)
        found = [0, 0]
        for striking, rules in ((False, 2), (True, 4)):
            for web, state, values in small_webs(draw, 100, rules):
                parts = list(range(len(web.moves)))
                if striking:
                    parts = [(at, number) for at in parts for number in range(len(web.moves[at][3]))]
                lot = tuple(sorted(draw.sample(parts, min(len(parts), draw.randrange(4)))))
                self.assertEqual(leaving.left_without(web, striking, lot).web, without(web, lot) if striking else without_moves(web, lot))
                attack = leaving.attack_without(web, state, values, striking, lot)
                if attack is not None:
                    found[striking] += 1
                    self.assertIs(is_attack(web, state, values, attack), True)
                    self.assertEqual(set(lot) & set((used_rules if striking else used_moves)(attack)), set())
        self.assertGreater(min(found), 20)

    def test_great(self):
        draw = random.Random(4)
        for web in (drifting_web(), great_web(draw, -10 ** 6, 10 ** 6), great_web(draw, -5, 1)):
            few = Web(NAMES, STATES, web.moves[:10])
            lean = repairs.lean_bars(few, 0, (0,) * 6)
            self.assertTrue(all([repairs.is_bar(few, 0, (0,) * 6, lot) for lot in lean]))
            self.assertEqual(repairs.bar_price(few, 0, (0,) * 6, (1,) * 10), min([len(lot) for lot in lean]))
            self.assertIs(repairs.is_bar(web, 0, (0,) * 6, tuple(range(40))), True)
            self.assertIs(repairs.is_strike(web, 0, (0,) * 6, tuple([(move, rule) for move in range(40) for rule in range(len(web.moves[move][3]))])), True)
        # As many lean lots as can be: of ten moves any five, of ten rules any five.
        clash = tuple([("m", 0, 0, (("rise", 1, 1, 0), ("rise", 1, 2, 0), ("now", 1, 0, -5), ("now", 0, 1, 0)))] * 10)
        self.assertEqual(repairs.lean_bars(Web(("x", "y"), ("a",), clash), 0, (9, 9)), (tuple(range(10)),))
        pairs = tuple([("m", 0, 0, (("rise", 1, 1, 1), ("now", 1, 0, -9))) for _ in range(5)])
        strikes = repairs.lean_strikes(Web(("x",), ("a",), pairs), 0, (0,))
        self.assertIn(tuple([(move, 0) for move in range(5)]), strikes)
        for lot in strikes:
            self.assertIs(repairs.is_strike(Web(("x",), ("a",), pairs), 0, (0,), lot), True)


if __name__ == "__main__":
    unittest.main()
