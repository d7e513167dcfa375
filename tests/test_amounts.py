import random
import unittest
from itertools import product

from heldalways import amounts
from heldalways.amounts import AmountWeb
from heldalways.between import between_answer
from heldalways.errors import InvalidWeb
from heldalways.webs import Web
from helping import NAMES, STATES, held_by_trial, keeps
from odd import ODD, STRANGE, resized, spoiled, told

NEAR = (("rise", 1, 1, -1, (1,)), ("fall", 1, 1, -1, (-1,)), ("now", 0, 1, 0, (0,)), ("now", 1, 0, -4, (0,)))
FLOW = AmountWeb(("level",), ("now", "then"), (("push", 0, 1, ((-2, 2),), NEAR),))
WIDE = ("wide", 1, 0, ((0, 3), (5, 5), (-1, 2)), (("now", 2, 1, 4, (1, -2, 3)), ("rise", 0, 2, -7, (0, 0, 0))))
BOTH = AmountWeb(("x", "y"), ("off", "on"), (("still", 0, 0, (), (("fall", 1, 2, 6, ()),)), WIDE))


def random_amount_web(draw, many, moves, ranges, rules):
    found = []
    for _ in range(moves):
        pairs = []
        for _ in range(draw.randrange(ranges + 1)):
            low = draw.randint(-2, 2)
            pairs.append((low, low + draw.randrange(4)))
        row = [(draw.choice(("rise", "fall", "now")), draw.randint(0, many), draw.randint(0, many),
                draw.randint(-3, 1), tuple([draw.randint(-1, 1) for _ in pairs])) for _ in range(rules)]
        found.append(("m", draw.randrange(2), draw.randrange(2), tuple(pairs), tuple(row)))
    return AmountWeb(NAMES[:many], STATES[:2], tuple(found))


class Point56(unittest.TestCase):
    def wrong(self, at, *parts):
        with self.assertRaises(InvalidWeb, msg=told(parts)) as caught:
            AmountWeb(*parts)
        self.assertEqual(caught.exception.at, at, told(parts))

    def wrong_move(self, move):
        good = ("m", 0, 0, (), ())
        self.wrong(0, ("x", "y"), ("off", "on"), (move,))
        self.wrong(2, ("x", "y"), ("off", "on"), (good, good, move, move, None))

    def test_attributes(self):
        moves = (("push", 0, 1, ((-2, 2),), NEAR),)
        web = AmountWeb(quantities=("level",), states=("now", "then"), moves=moves)
        self.assertEqual((web.quantities, web.states, web.moves), (("level",), ("now", "then"), moves))

    def test_equality(self):
        self.assertTrue(BOTH == AmountWeb(("x", "y"), ("off", "on"), BOTH.moves))
        self.assertFalse(BOTH != AmountWeb(("x", "y"), ("off", "on"), BOTH.moves))
        for parts in ((("x", "z"), ("off", "on"), BOTH.moves), (("x", "y"), ("off", "om"), ()), (("x", "y"), ("off", "on"), ())):
            self.assertFalse(BOTH == AmountWeb(*parts))
        bare = AmountWeb((), ("a",), ())
        self.assertFalse(bare == AmountWeb((), ("b",), ()) or bare == AmountWeb(("x",), ("a",), ()))
        for value in [*STRANGE, None, Web((), ("a",), ())]:
            if told(value) not in ("Yes", "Loud"):
                self.assertFalse(bare == value)

    def test_as_webs(self):
        self.wrong(-3, ("b", "a"), (), None)
        self.wrong(-2, ("a",), (), None)
        self.wrong(-1, ("a",), ("a",), [("m", 0, 0, (), ())])
        self.wrong(-1, ("a",), ("a",), (("m", 0, 0, (), ()),) * 41)
        for value in STRANGE + [None, 0, "a", ("b", "a"), NAMES + ("g",)]:
            self.wrong(-3, value, value, value)
        for value in STRANGE + [None, 0, "a", (), STATES + ("x",)]:
            self.wrong(-2, ("a",), value, value)
        for value in STRANGE + [None, 0, "a"]:
            self.wrong(-1, ("a",), ("a",), value)
            self.wrong(0, ("a",), ("a",), (value,))

    def test_wrong_moves(self):
        rule = ("now", 1, 2, 0, (0,))
        for move in (
                ("m", 0, 2, ((0, 1),), ()), ("m", -1, 0, ((0, 1),), ()), ("", 0, 0, ((0, 1),), ()),
                ("m", 0, 0, ((1, 0),), ()), ("m", 0, 0, ((0, 10 ** 6 + 1),), ()), ("m", 0, 0, ((-10 ** 6 - 1, 0),), ()),
                ("m", 0, 0, ((0, 0),) * 4, ()), ("m", 0, 0, [(0, 1)], ()), ("m", 0, 0, ([0, 1],), ()),
                ("m", 0, 0, ((0, 1, 2),), ()), ("m", 0, 0, ((False, 1),), ()), ("m", 0, 0, ((0, True),), ()),
                ("m", 0, 0, ((0, 1),), (rule,) * 31), ("m", 0, 0, ((0, 1),), [rule]), ("m", 0, 0, ()),
                ("m", 0, 0, ((0, 1),), (rule[:4],)), ("m", 0, 0, ((0, 1),), ((*rule, 0),)),
                ("m", 0, 0, ((0, 1),), (("now", 1, 2, 0, ()),)), ("m", 0, 0, ((0, 1),), (("now", 1, 2, 0, (0, 0)),)),
                ("m", 0, 0, ((0, 1),), (("now", 1, 2, 0, [0]),)), ("m", 0, 0, ((0, 1),), (("now", 1, 2, 0, (True,)),)),
                ("m", 0, 0, ((0, 1),), (("now", 1, 3, 0, (0,)),)), ("m", 0, 0, ((0, 1),), (("up", 1, 2, 0, (0,)),)),
                ("m", 0, 0, ((0, 0),), (("now", 1, 2, 0, (10 ** 6 + 1,)),)),
                ("m", 0, 0, ((0, 0),), (("now", 1, 2, 0, (-10 ** 6 - 1,)),)),
                ("m", 0, 0, (), (("now", 1, 2, 10 ** 6 + 1, ()),)), ("m", 0, 0, (), (("now", 1, 2, -10 ** 6 - 1, ()),))):
            self.wrong_move(move)

    def test_weights_at_corners(self):
        # The weight alone and at each corner must keep the bounds.
        def move(weight, shares, *ranges):
            return ("m", 0, 0, ranges, (("now", 1, 2, weight, shares),))
        for wrong in (
                move(10 ** 6, (1,), (0, 1)), move(10 ** 6, (-1,), (-1, 0)), move(-10 ** 6, (-1,), (0, 1)),
                move(10 ** 6 + 1, (-1,), (1, 1)), move(-10 ** 6 - 1, (1,), (1, 1)),
                move(0, (10 ** 6, 1), (0, 1), (0, 1)), move(0, (1000, 1), (0, 1000), (-1, 1)),
                move(0, (1, 1, 1), (0, 10 ** 6), (0, 0), (-1, 1)), move(0, (10 ** 6,), (10 ** 6, 10 ** 6))):
            self.wrong_move(wrong)
        for right in (
                move(10 ** 6, (1,), (-1, 0)), move(10 ** 6, (0,), (-10 ** 6, 10 ** 6)), move(0, (10 ** 6,), (-1, 1)),
                move(-10 ** 6, (1, 1), (0, 10 ** 6), (0, 10 ** 6)), move(0, (1000, 1), (0, 1000), (-1, 0))):
            AmountWeb(("x", "y"), ("off",), (right,))

    def test_spoiled_anywhere(self):
        for wrong in [*spoiled(WIDE, STRANGE + [None, "", 10 ** 400]), *resized(WIDE)]:
            if told(wrong) != told((*WIDE[:4], WIDE[4][:1])):
                self.wrong_move(wrong)

    def test_corners_in_all(self):
        eight = ("m", 0, 0, ((0, 1),) * 3, ())
        one = ("m", 0, 0, ((5, 5),) * 3, ())
        AmountWeb((), ("a",), (eight,) * 5)
        AmountWeb((), ("a",), (one,) * 40)
        AmountWeb((), ("a",), (eight,) * 4 + (one,) * 8)
        self.wrong(-4, (), ("a",), (eight,) * 5 + (one,))
        self.wrong(-4, (), ("a",), (eight,) * 6)
        self.wrong(6, (), ("a",), (eight,) * 6 + (None,))
        AmountWeb((), ("a",), (("m", 0, 0, ((0, 1),), ()),) * 20)
        self.wrong(-4, (), ("a",), (("m", 0, 0, ((0, 1),), ()),) * 21)

    def test_amounts(self):
        for value in ((0, 5, -1), (3, 5, 2), (1, 5, 0)):
            self.assertIs(amounts.are_amounts(BOTH, 1, value), True)
        for value in ((-1, 5, 0), (4, 5, 0), (0, 4, 0), (0, 6, 0), (0, 5, -2), (0, 5, 3), (0, 5), (0, 5, 0, 0), [0, 5, 0]):
            self.assertIs(amounts.are_amounts(BOTH, 1, value), False, told(value))
        for value in [*ODD, *spoiled((0, 5, 0), STRANGE + [None, 10 ** 400, "0", ()])]:
            self.assertIs(amounts.are_amounts(BOTH, 1, value), False, told(value))
        self.assertIs(amounts.are_amounts(BOTH, 0, ()), True)
        self.assertIs(amounts.are_amounts(BOTH, 0, (0,)), False)
        self.assertIs(amounts.are_amounts(BOTH, 0, []), False)

    def test_rules_at(self):
        self.assertEqual(amounts.rules_at(BOTH, 0, ()), (("fall", 1, 2, 6),))
        self.assertEqual(amounts.rules_at(BOTH, 1, (3, 5, -1)), (("now", 2, 1, 4 + 3 - 10 - 3), ("rise", 0, 2, -7)))
        self.assertEqual(amounts.rules_at(FLOW, 0, (1,))[:2], (("rise", 1, 1, 0), ("fall", 1, 1, -2)))


class Point57(unittest.TestCase):
    def test_example(self):
        self.assertEqual(amounts.corner_web(FLOW).moves[1][3][0], ("rise", 1, 1, 1))

    def test_corners(self):
        self.assertEqual(amounts.corners_of(BOTH, 0), ((),))
        self.assertEqual(amounts.corners_of(BOTH, 1), ((0, 5, -1), (0, 5, 2), (3, 5, -1), (3, 5, 2)))
        self.assertEqual(amounts.corners_of(FLOW, 0), ((-2,), (2,)))
        places = ((0, ()), (1, (0, 5, -1)), (1, (0, 5, 2)), (1, (3, 5, -1)), (1, (3, 5, 2)))
        self.assertEqual(amounts.corner_places(BOTH), places)
        self.assertEqual(amounts.corner_places(AmountWeb((), ("a",), ())), ())

    def test_corner_web(self):
        web = amounts.corner_web(BOTH)
        self.assertIsInstance(web, Web)
        self.assertEqual((web.quantities, web.states), (("x", "y"), ("off", "on")))
        self.assertEqual(web.moves, tuple([
            (*BOTH.moves[move][:3], amounts.rules_at(BOTH, move, corner)) for move, corner in amounts.corner_places(BOTH)]))
        eight = ("m", 0, 0, ((0, 1), (2, 3), (4, 5)), (("now", 0, 1, 0, (1, 2, 3)),) * 30)
        self.assertEqual(len(amounts.corner_web(AmountWeb(("x",), ("a",), (eight,) * 5)).moves), 40)

    def test_web_at(self):
        web = amounts.web_at(BOTH, ((), (1, 5, 1)))
        self.assertEqual(web, Web(("x", "y"), ("off", "on"), (
            ("still", 0, 0, (("fall", 1, 2, 6),)), ("wide", 1, 0, (("now", 2, 1, -2), ("rise", 0, 2, -7))))))

    def test_unseen_web(self):
        self.assertEqual(amounts.unseen_web(BOTH), Web(("x", "y"), ("off", "on"), (
            ("still", 0, 0, (("fall", 1, 2, 6),)), ("wide", 1, 0, (("now", 2, 1, 3), ("rise", 0, 2, -7))))))
        draw = random.Random(3)
        for _ in range(40):
            web = random_amount_web(draw, 2, 2, 3, 4)
            for at, move in enumerate(amounts.unseen_web(web).moves):
                spans = [range(low, high + 1) for low, high in web.moves[at][3]]
                each = [amounts.rules_at(web, at, told_amounts) for told_amounts in product(*spans)]
                self.assertEqual(move[3], tuple([max(row) for row in zip(*each)]))

    def test_held_by_trial(self):
        # Who sees the amounts holds what is held in the corner web, who does not that of the unseen web.
        draw = random.Random(4)
        found = []
        for _ in range(40):
            web = random_amount_web(draw, 1, 2, 1, 3)
            everywhere = []
            for at, move in enumerate(web.moves):
                for told_amounts in product(*[range(low, high + 1) for low, high in move[3]]):
                    everywhere.append((*move[:3], amounts.rules_at(web, at, told_amounts)))
            seen = Web(web.quantities, web.states, tuple(everywhere))
            for start in range(-4, 5):
                held = held_by_trial(seen, 0, (start,), 2)
                found.append(held)
                self.assertEqual(held_by_trial(amounts.corner_web(web), 0, (start,), 2), held)
                blind = self.blind(web, 0, start, 2)
                self.assertEqual(held_by_trial(amounts.unseen_web(web), 0, (start,), 2), blind)
        self.assertTrue(50 < sum(found) < len(found) - 50, found)

    def blind(self, web, state, old, most):
        """Whether values are held by one who does not see the amounts, by trial."""
        if most == 0:
            return True
        for at, move in enumerate(web.moves):
            if move[1] == state:
                told_amounts = list(product(*[range(low, high + 1) for low, high in move[3]]))
                rules = [amounts.rules_at(web, at, one) for one in told_amounts]
                if not any([all([keeps(row, (old,), (new,)) for row in rules])
                            and self.blind(web, move[2], new, most - 1) for new in range(-20, 21)]):
                    return False
        return True


class Point58(unittest.TestCase):
    def test_one_corner(self):
        self.assertEqual(between_answer(BOTH, 0, (), ((5, -6),)), (5, -6))
        self.assertEqual(between_answer(AmountWeb((), ("a",), (("m", 0, 0, ((0, 9),), ()),)), 0, (4,), ((), ())), ())

    def test_at_corners(self):
        answers = ((1, 2), (30, 40), (500, -600), (7000, 8000))
        for corner, answer in zip(amounts.corners_of(BOTH, 1), answers):
            self.assertEqual(between_answer(BOTH, 1, corner, answers), answer)

    def test_by_trial(self):
        draw = random.Random(5)
        kept = 0
        for _ in range(400):
            web = random_amount_web(draw, 2, 1, 3, 4)
            corners = amounts.corners_of(web, 0)
            answers = tuple([(draw.randint(-9, 9), draw.randint(-9, 9)) for _ in corners])
            olds = [(draw.randint(-9, 9), draw.randint(-9, 9)) for _ in range(8)]
            for told_amounts in product(*[range(low, high + 1) for low, high in web.moves[0][3]]):
                found = between_answer(web, 0, told_amounts, answers)
                # Each rule by itself: old values that all corners keep it from.
                rules = [amounts.rules_at(web, 0, corner) for corner in corners]
                here = amounts.rules_at(web, 0, told_amounts)
                for old in olds:
                    for at, rule in enumerate(here):
                        if all([keeps(row[at:at + 1], old, answer) for row, answer in zip(rules, answers)]):
                            kept += 1
                            self.assertTrue(keeps((rule,), old, found))
                for i, j in product(range(3), repeat=2):
                    least = min([(0, *answer)[j] - (0, *answer)[i] for answer in answers])
                    self.assertGreaterEqual((0, *found)[j] - (0, *found)[i], least)
        self.assertGreater(kept, 1000)

    def test_great(self):
        rules = (("now", 1, 2, -10 ** 6, (1, 1, 0)),) * 30
        web = AmountWeb(NAMES, STATES, (("m", 0, 7, ((0, 10 ** 6), (0, 10 ** 6), (-10 ** 6, 10 ** 6)), rules),) * 5)
        answers = tuple([tuple([(at - 3) * 10 ** 9 + by for by in range(6)]) for at in range(8)])
        found = between_answer(web, 4, (123456, 999999, -7), answers)
        self.assertEqual(len(found), 6)
        self.assertTrue(all([-3 * 10 ** 9 <= number <= 4 * 10 ** 9 + 5 for number in found]))
        self.assertTrue(all([isinstance(number, int) for number in found]))


if __name__ == "__main__":
    unittest.main()
