import random
import unittest
from itertools import product

from heldalways import boxes
from heldalways.errors import Refused
from heldalways.tours import is_held_for
from heldalways.webs import Web, reached
from helping import NAMES, STATES, great_web, held_by_trial, keeps, random_web

TANK = Web(("level",), ("wet",), (("rain", 0, 0, (("rise", 1, 1, 1), ("now", 0, 1, 0), ("now", 1, 0, -5))),))
MOST = 10 ** 6


def held_by_sets(web, box, most):
    """The rows held for so many moves, each round by trial of all rows."""
    rows = list(product(*[range(low, high + 1) for low, high in box]))
    held = [list(rows) for _ in web.states]
    for _ in range(most):
        held = [[row for row in rows if all(
            [any([keeps(rules, row, new) for new in held[end]])
             for _, start, end, rules in web.moves if start == state])] for state in range(len(web.states))]
    return tuple([tuple(told) for told in held])


class Point20(unittest.TestCase):
    def refused(self, call, *told):
        with self.assertRaises(Refused) as caught:
            call(*told)
        self.assertEqual(caught.exception.word, "size")

    def test_examples(self):
        self.assertEqual(boxes.held_in(TANK, ((0, 6),), 4), (((0,), (1,)),))
        self.assertEqual(boxes.rounds_in(TANK, ((0, 6),)), 6)

    def test_rows(self):
        self.assertEqual(boxes.rows_in(()), ((),))
        self.assertEqual(boxes.rows_in(((-1, 1),)), ((-1,), (0,), (1,)))
        self.assertEqual(boxes.rows_in(((2, 2), (-1, 0))), ((2, -1), (2, 0)))
        box = ((-1, 1), (5, 6), (0, 2))
        self.assertEqual(boxes.rows_in(box), tuple(sorted(product(range(-1, 2), range(5, 7), range(3)))))
        self.assertEqual(len(boxes.rows_in(((-MOST, -MOST + 199),))), 200)

    def test_too_many_rows(self):
        web = Web(NAMES, ("a",), (("m", 0, 0, ()),))
        for box in (((0, 200),), ((-MOST, MOST),) * 6, ((0, 66), (0, 2)), ((0, 2),) * 5):
            self.refused(boxes.rows_in, box)
        wide = ((-MOST, MOST),) * 6
        for call in (boxes.ever_in, boxes.rounds_in):
            self.refused(call, web, wide)
        self.refused(boxes.held_in, web, wide, 0)
        self.refused(boxes.held_in, web, wide, 3)
        self.refused(boxes.ever_answer, web, wide, 0, (0,) * 6)
        self.assertEqual(len(boxes.boxed_web(web, wide).moves[0][3]), 12)

    def test_boxed_web(self):
        web = Web(("x", "y"), ("a", "b"), (("m", 0, 1, (("rise", 1, 2, 3),)), ("n", 1, 1, ())))
        behind = (("now", 0, 1, -4), ("now", 1, 0, -7), ("now", 0, 2, 5), ("now", 2, 0, -5))
        self.assertEqual(boxes.boxed_web(web, ((-4, 7), (5, 5))), Web(("x", "y"), ("a", "b"), (
            ("m", 0, 1, (("rise", 1, 2, 3), *behind)), ("n", 1, 1, behind))))
        bare = Web((), ("a",), (("m", 0, 0, (("now", 0, 0, 1),) * 30),))
        self.assertEqual(boxes.boxed_web(bare, ()), bare)
        full = Web(("x",), ("a",), (("m", 0, 0, (("now", 1, 1, 0),) * 28),))
        self.assertEqual(len(boxes.boxed_web(full, ((-MOST, MOST),)).moves[0][3]), 30)
        self.refused(boxes.boxed_web, Web(("x",), ("a",), (("n", 0, 0, ()), ("m", 0, 0, (("now", 1, 1, 0),) * 29))), ((0, 0),))
        self.assertEqual(boxes.boxed_web(Web(("x",), ("a",), ()), ((0, 9999),)), Web(("x",), ("a",), ()))

    def test_held(self):
        found = [boxes.held_in(TANK, ((0, 6),), most) for most in range(9)]
        self.assertEqual([len(told[0]) for told in found], [7, 5, 4, 3, 2, 1, 0, 0, 0])
        self.assertEqual(boxes.held_in(TANK, ((0, 6),), 10 ** 30), ((),))
        self.assertEqual(boxes.ever_in(TANK, ((0, 6),)), ((),))
        self.assertEqual(boxes.rounds_in(Web(("x",), ("a",), ()), ((0, 6),)), 0)
        self.assertEqual(boxes.ever_in(Web((), ("a", "b"), (("m", 0, 1, (("now", 0, 0, 1),)),)), ()), ((), ((),)))

    def test_ever_answer(self):
        rules = (("rise", 1, 1, -2), ("fall", 1, 1, -2))
        web = Web(("x",), ("a", "b"), (("m", 0, 1, rules), ("n", 1, 1, rules + (("now", 0, 1, 3),))))
        box = ((0, 9),)
        self.assertEqual(boxes.ever_in(web, box)[1], tuple([(at,) for at in range(1, 10)]))
        self.assertEqual([boxes.ever_answer(web, box, 0, (old,)) for old in (-2, -1, 0, 5, 11, 12, 10 ** 9)],
                         [None, (1,), (1,), (3,), (9,), None, None])
        self.assertEqual([boxes.ever_answer(web, box, 1, (old,)) for old in (0, 1, 4)], [None, (3,), (3,)])
        self.assertIsNone(boxes.ever_answer(TANK, ((0, 6),), 0, (0,)))
        two = Web(("x", "y"), ("a",), (("m", 0, 0, (("now", 1, 2, 0),)),))
        self.assertEqual(boxes.ever_answer(two, ((3, 4), (0, 9)), 0, (0, 0)), (3, 3))

    def test_by_trial(self):
        draw = random.Random(1)
        rounds = []
        for _ in range(120):
            many = draw.randrange(4)
            web = random_web(draw, many, 2, 3, 4, -2, 1)
            box = tuple([(low, low + draw.randrange((7, 7, 4, 3)[many])) for low in [draw.randint(-3, 1) for _ in range(many)]])
            ever = boxes.ever_in(web, box)
            rounds.append(boxes.rounds_in(web, box))
            for most in range(rounds[-1] + 2):
                held = held_by_sets(web, box, most)
                self.assertEqual(boxes.held_in(web, box, most), held)
                self.assertEqual(held == ever, most >= rounds[-1])
            for at, (_, _, end, rules) in enumerate(web.moves):
                for _ in range(5):
                    old = tuple([draw.randint(-6, 6) for _ in range(many)])
                    right = [row for row in ever[end] if keeps(rules, old, row)]
                    self.assertEqual(boxes.ever_answer(web, box, at, old), right[0] if right else None)
        self.assertTrue(len(set(rounds)) > 3, rounds)

    def test_the_boxed_web(self):
        draw = random.Random(2)
        for _ in range(60):
            many = draw.choice((1, 2))
            web = random_web(draw, many, 2, 3, 4, -2, 1)
            box = ((-2, 1),) * many
            boxed = boxes.boxed_web(web, box)
            for most in (0, 1, 2, 5):
                held = boxes.held_in(web, box, most)
                for state in (0, 1):
                    self.assertEqual(held[state], tuple([
                        row for row in boxes.rows_in(box) if is_held_for(boxed, state, row, most)]))
                    if many == 1 and most < 3:
                        self.assertEqual(held[state], tuple([
                            row for row in boxes.rows_in(box) if held_by_trial(boxed, state, row, most)]))

    def test_differences_tell_the_rows(self):
        draw = random.Random(3)
        for _ in range(80):
            web = random_web(draw, 2, 2, 3, 4, -2, 1)
            box = ((-2, 1), (0, 3))
            for held in (*boxes.held_in(web, box, 1), *boxes.ever_in(web, box)):
                if held:
                    most = {(i, j): max([(0, *row)[j] - (0, *row)[i] for row in held])
                            for i in range(3) for j in range(3)}
                    self.assertEqual(held, tuple([row for row in boxes.rows_in(box) if all(
                        [(0, *row)[j] - (0, *row)[i] <= most[i, j] for i, j in most])]))

    def test_moves_enough_for_ever(self):
        draw = random.Random(4)
        for _ in range(80):
            many = draw.choice((1, 2))
            web = random_web(draw, many, 3, 4, 4, -2, 1)
            box = ((-4, 4),) * many
            ever = boxes.ever_in(web, box)
            for state in range(3):
                if ever[state]:
                    most = (many + 1) ** 2 * len(reached(web, state))
                    self.assertEqual(boxes.held_in(web, box, most)[state], ever[state])

    def test_great(self):
        draw = random.Random(5)
        for box in (((0, 199),), ((0, 1),) * 6, ((-3, 1),) * 3, ((MOST - 13, MOST), (-MOST, -MOST + 13))):
            many = len(box)
            moves = tuple([(*move[:3], tuple([
                (kind, i, j, weight) for kind, i, j, weight in move[3] if max(i, j) <= many])) for move in great_web(draw, -9, -1).moves])
            web = Web(NAMES[:many], STATES, moves)
            rounds = boxes.rounds_in(web, box)
            self.assertEqual(boxes.held_in(web, box, rounds), boxes.ever_in(web, box))
        # Each round takes one row away at one state.
        slow = Web(("x",), STATES, tuple([("m", at % 8, (at + 1) % 8, (("rise", 1, 1, 1 if at % 8 == 0 else 0),) * 30)
                                          for at in range(40)]))
        self.assertEqual(boxes.rounds_in(slow, ((0, 199),)), 1600)
        self.assertEqual(boxes.ever_in(slow, ((0, 199),)), ((),) * 8)


if __name__ == "__main__":
    unittest.main()
