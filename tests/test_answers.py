import random
import unittest
from itertools import product

from heldalways import answers
from heldalways.bounds import ring_in
from heldalways.errors import Refused
from heldalways.tours import is_held_for, keeps_rows, layer_rows, layers
from heldalways.webs import Web
from helping import NAMES, STATES, drifting_web, keeps, random_web
from odd import ODD, STRANGE, spoiled, told

NEAR = (("now", 1, 2, -1), ("now", 2, 1, -1))
GATES = Web(("left", "right"), ("on",), (("up", 0, 0, NEAR + (("rise", 1, 1, 1),)),))
TABLE = (((0, None, None), (None, 0, -1), (None, -1, 0)),)
KEEP = (("now", 0, 1, 0), ("now", 1, 0, -5))
POUR = Web(("level",), ("dry", "wet"), (("pour", 1, 0, KEEP + (("rise", 1, 1, 0),)), ("dry", 0, 1, KEEP)))
CALM = (((0, None), (None, 0)), ((0, None), (-5, 0)))


def settled(web):
    """The layer that one more move does not change, None if there are rings or no such layer is near."""
    for layer in layers(web, 30)[1:]:
        if None in layer:
            return None
        if layer_rows(web, layer) == layer:
            return layer
    return None


def webs_and_tables(draw, many, wanted):
    """Some random webs with right tables that are their settled layers."""
    found = []
    while len(found) < wanted:
        web = random_web(draw, many, 2, 3, 4, -3, 1)
        table = settled(web)
        if table is not None and web.moves:
            found.append((web, table))
    return found


class Point42(unittest.TestCase):
    def test_move_rows(self):
        self.assertEqual(answers.move_rows(GATES, TABLE, 0), (
            (0, None, None, None, None), (None, None, None, 1, None), (None,) * 5,
            (None, None, None, 0, -1), (None, None, None, -1, 0)))
        rules = (("rise", 0, 2, 7), ("rise", 1, 0, 6), ("fall", 2, 1, 5), ("fall", 0, 1, -4), ("now", 2, 1, 3), ("now", 1, 2, -8),
                 ("rise", 1, 1, 1), ("rise", 1, 1, 2), ("now", 0, 0, -9), ("rise", 0, 0, -2))
        web = Web(("x", "y"), ("a", "b"), (("n", 1, 1, ()), ("m", 0, 1, rules)))
        table = (None, ((0, 4, None), (-3, 0, -5), (None, 2, 0)))
        self.assertEqual(answers.move_rows(web, table, 1), (
            (0, None, None, 4, 7), (6, None, None, 2, None), (None, None, None, None, None),
            (-3, None, 5, 0, -5), (None, None, None, 3, 0)))
        self.assertEqual(answers.move_rows(Web((), ("a",), (("m", 0, 0, ()),)), (((0,),),), 0), ((0,),))
        loose = (((0, 10 ** 400), (None, 0)), CALM[1])
        self.assertEqual(answers.move_rows(POUR, loose, 0), ((0, None, 10 ** 400), (None, None, 0), (-5, None, 0)))

    def test_is_answer(self):
        self.assertIs(answers.is_answer(GATES, TABLE, (0, 0), 0, (1, 0)), True)
        self.assertIs(answers.is_answer(GATES, TABLE, (0, 0), 0, (10 ** 300, 10 ** 300 + 1)), True)
        for value in ((0, 0), (1, -1), (1, 3), (1,), (1, 0, 0), [1, 0], (True, 0), (1, False), (1.0, 0), (1, None)):
            self.assertIs(answers.is_answer(GATES, TABLE, (0, 0), 0, value), False, told(value))
        for value in [*ODD, *spoiled((1, 0), STRANGE + [None, "a", ()])]:
            self.assertIs(answers.is_answer(GATES, TABLE, (0, 0), 0, value), False, told(value))
        self.assertEqual([answers.is_answer(POUR, CALM, (2,), 1, (level,)) for level in (-1, 0, 5, 6)],
                         [False, True, True, False])
        # The table at the end asks, too.
        narrow = (CALM[0], ((0, 3), (-4, 0)))
        self.assertEqual([answers.is_answer(POUR, narrow, (2,), 1, (level,)) for level in (2, 3, 4, 5)],
                         [False, True, True, False])
        self.assertIs(answers.is_answer(Web((), ("a",), (("m", 0, 0, ()),)), (((0,),),), (), 0, ()), True)

    def test_never_stuck(self):
        draw = random.Random(1)
        for web, table in webs_and_tables(draw, 2, 40):
            for at, (_, start, end, rules) in enumerate(web.moves):
                for old in product((-3, -1, 0, 2), repeat=2):
                    news = list(product(range(-6, 7), repeat=2))
                    right = [new for new in news if keeps(rules, old, new) and keeps_rows(table[end], new)]
                    self.assertEqual([new for new in news if answers.is_answer(web, table, old, at, new)], right)
                    if keeps_rows(table[start], old):
                        some = answers.some_answer(web, table, old, at)
                        self.assertIs(answers.is_answer(web, table, old, at, some), True)
                        self.assertTrue(keeps(rules, old, some) and keeps_rows(table[end], some))
                        self.assertIs(is_held_for(web, end, some, 40), True)
                self.assertIsNone(ring_in(answers.move_rows(web, table, at)))


class Point43(unittest.TestCase):
    def refused(self, word, *told_values):
        for call in (answers.answer_ranges, answers.some_answer):
            with self.assertRaises(Refused, msg=told(told_values)) as caught:
                call(*told_values)
            self.assertEqual(caught.exception.word, word)

    def test_examples(self):
        self.assertEqual(answers.answer_ranges(GATES, TABLE, (0, 0), 0), ((1, None), (0, None)))
        self.assertEqual(answers.answer_ranges(GATES, TABLE, (0, 0), 0, (None, 4)), ((3, 5), (4, 4)))

    def test_said(self):
        self.assertEqual(answers.answer_ranges(GATES, TABLE, (0, 0), 0, None), ((1, None), (0, None)))
        self.assertEqual(answers.answer_ranges(GATES, TABLE, (0, 0), 0, (None, None)), ((1, None), (0, None)))
        self.assertEqual(answers.answer_ranges(GATES, TABLE, (0, 0), 0, said=(7, 8)), ((7, 7), (8, 8)))
        self.assertEqual(answers.some_answer(GATES, TABLE, (0, 0), 0, said=(7, 8)), (7, 8))
        self.assertEqual(answers.some_answer(GATES, TABLE, (0, 0), 0, (None, 10 ** 300))[1], 10 ** 300)
        self.assertEqual(answers.answer_ranges(POUR, CALM, (2,), 1), ((0, 5),))
        self.assertEqual(answers.answer_ranges(POUR, CALM, (2,), 0), ((2, 5),))

    def test_refused(self):
        self.refused("said", GATES, TABLE, (0, 0), 0, (0, None))
        self.refused("said", GATES, TABLE, (0, 0), 0, (5, 7))
        self.refused("held", GATES, TABLE, (0, 2), 0)
        self.refused("held", GATES, TABLE, (0, 2), 0, (0, 0))
        self.refused("held", GATES, TABLE, (0, 2), 0, (3, 3))
        self.refused("held", POUR, CALM, (6,), 0)
        self.refused("held", POUR, CALM, (6,), 0, (6,))
        self.refused("said", POUR, CALM, (5,), 0, (6,))
        self.refused("said", POUR, CALM, (6,), 1, (6,))
        self.assertEqual(answers.answer_ranges(POUR, CALM, (6,), 1), ((0, 5),))
        self.assertEqual(answers.answer_ranges(POUR, CALM, (-9,), 0), ((0, 5),))

    def test_by_trial(self):
        draw = random.Random(2)
        refusals = 0
        for web, table in webs_and_tables(draw, 2, 60):
            for _ in range(12):
                at = draw.randrange(len(web.moves))
                _, start, end, rules = web.moves[at]
                old = (draw.randint(-3, 3), draw.randint(-3, 3))
                said = draw.choice((None, tuple([draw.choice((None, draw.randint(-4, 4))) for _ in range(2)])))
                if not keeps_rows(table[start], old):
                    self.refused("held", web, table, old, at, said)
                    continue
                spans = [range(-25, 26) if number is None else (number,) for number in said or (None, None)]
                right = [new for new in product(*spans) if keeps(rules, old, new) and keeps_rows(table[end], new)]
                if not right:
                    refusals += 1
                    self.refused("said", web, table, old, at, said)
                    continue
                some = answers.some_answer(web, table, old, at, said)
                self.assertTrue(answers.is_answer(web, table, old, at, some))
                self.assertTrue(all([number is None or number == one for number, one in zip(said or (None, None), some)]))
                for place, (low, high) in enumerate(answers.answer_ranges(web, table, old, at, said)):
                    numbers = sorted({new[place] for new in right})
                    self.assertEqual(numbers, list(range(numbers[0], numbers[-1] + 1)))
                    self.assertEqual(low, None if numbers[0] < -17 else numbers[0])
                    self.assertEqual(high, None if numbers[-1] > 17 else numbers[-1])
        self.assertGreater(refusals, 20)

    def test_great(self):
        rules = tuple([("rise", at, at, 0) for at in range(1, 7)] + [("now", at, at % 6 + 1, -10 ** 6) for at in range(1, 7)]
                      + [("now", at, 0, -10 ** 6) for at in range(1, 7)] + [("fall", at, at, -7 * at) for at in range(1, 7)]
                      + [("now", 0, at, -10 ** 6) for at in range(1, 7)])
        self.assertEqual(len(rules), 30)
        web = Web(NAMES, STATES, tuple([("m", at % 8, (3 * at + 1) % 8, rules) for at in range(40)]))
        table = settled(web)
        self.assertIsNotNone(table)
        for at in range(40):
            ranges = answers.answer_ranges(web, table, (10 ** 6,) * 6, at)
            self.assertEqual(ranges, ((10 ** 6, 10 ** 6),) * 6)
            self.assertEqual(answers.answer_ranges(web, table, (0,) * 6, at), tuple([(0, 7 * by) for by in range(1, 7)]))
            self.assertEqual(answers.some_answer(web, table, (0,) * 6, at, (None, 14, None, 3, None, None))[1], 14)
        self.assertEqual(len(answers.move_rows(drifting_web(), layers(drifting_web(), 9)[9], 0)), 13)


if __name__ == "__main__":
    unittest.main()
