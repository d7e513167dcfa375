import random
import unittest
from itertools import permutations, product

from heldalways import tours
from heldalways.errors import InvalidNumber, InvalidValues
from heldalways.webs import Web
from helping import NAMES, STATES, drifting_web, great_web, held_by_trial, random_web
from odd import ODD, STRANGE, told

TANK = Web(("level",), ("on",), (("rain", 0, 0, (("rise", 1, 1, 1), ("now", 1, 0, -5))),))


def walks(arcs, one, other, points):
    """The weights of the walks from one point to another along arcs that pass no point twice.

    From a point to itself: nothing, weight 0, and the rings that pass no other point twice.
    """
    found = [0] if one == other else []
    rest = [at for at in points if at not in (one, other)]
    for many in range(len(rest) + 1):
        for middle in permutations(rest, many):
            weights = [0]
            path = (one, *middle, other)
            for i, j in zip(path, path[1:]):
                weights = [weight + arc for weight in weights for arc in arcs.get((i, j), [])]
            found += weights
    return found


def tree(web, state, most):
    """The rows of a state for so many moves, by the words of point 27, None for a ring.

    Excursions are told one by one: an arc to a new point, a walk, an arc back.
    """
    points = range(len(web.quantities) + 1)
    arcs = {}
    for _, start, end, rules in web.moves:
        if start == state and most > 0:
            inner = tree(web, end, most - 1)
            if inner is None:
                return None
            along = {pair: [weight] for pair, weight in inner.items()}
            for kind, i, j, weight in rules:
                if kind == "now":
                    along.setdefault((i, j), []).append(weight)
            if any([max(walks(along, at, at, points)) > 0 for at in points]):
                return None
            into = [(0, 0, 0)] + [(i, j, weight) for kind, i, j, weight in rules if kind == "rise"]
            back = [(0, 0, 0)] + [(j, i, weight) for kind, i, j, weight in rules if kind == "fall"]
            for (i, a, first), (b, j, last) in product(into, back):
                weights = walks(along, a, b, points)
                if weights:
                    arcs.setdefault((i, j), []).append(first + max(weights) + last)
    found = {}
    for one, other in product(points, points):
        weights = walks(arcs, one, other, points)
        if weights:
            found[one, other] = max(weights)
        if one == other and found[one, other] > 0:
            return None
    return found


class Point26(unittest.TestCase):
    def test_arcs(self):
        rules = (("fall", 1, 2, 5), ("now", 2, 1, 6), ("rise", 1, 0, 7), ("rise", 0, 2, -8), ("now", 0, 0, 9), ("fall", 0, 1, 0))
        web = Web(("x", "y"), ("a",), (("n", 0, 0, ()), ("m", 0, 0, rules)))
        self.assertEqual(tours.move_arcs(web, 1), (
            ("old", 0, "new", 0, 0, ("ground", 0)), ("old", 1, "new", 0, 7, ("rule", 2)),
            ("old", 0, "new", 2, -8, ("rule", 3)), ("new", 2, "new", 1, 6, ("rule", 1)),
            ("new", 0, "new", 0, 9, ("rule", 4)), ("new", 0, "old", 0, 0, ("ground", 0)),
            ("new", 2, "old", 1, 5, ("rule", 0)), ("new", 1, "old", 0, 0, ("rule", 5))))
        self.assertEqual(tours.move_arcs(web, 0), (
            ("old", 0, "new", 0, 0, ("ground", 0)), ("new", 0, "old", 0, 0, ("ground", 0))))
        self.assertEqual(len(tours.move_arcs(drifting_web(), 39)), 32)


class Point28(unittest.TestCase):
    def test_example(self):
        self.assertEqual(tours.layers(TANK, 2)[2], (((0, None), (-3, 0)),))
        self.assertIs(tours.is_held_for(TANK, 0, (3,), 2), True)
        self.assertIs(tours.is_held_for(TANK, 0, (4,), 2), False)

    def test_first_layer(self):
        self.assertEqual(tours.first_layer(TANK), (((0, None), (None, 0)),))
        self.assertEqual(tours.first_layer(Web((), ("a", "b"), ())), (((0,),), ((0,),)))
        self.assertEqual(tours.layers(TANK, 0), (tours.first_layer(TANK),))
        three = Web(("x", "y"), ("a", "b"), (("m", 0, 1, (("now", 0, 0, 5),)),))
        rows = ((0, None, None), (None, 0, None), (None, None, 0))
        self.assertEqual(tours.first_layer(three), (rows, rows))

    def test_rings(self):
        # A ring of "now" rules is one at the end of the move; so its own state has none.
        web = Web(("x",), ("a", "b", "c"), (("m", 0, 1, ()), ("n", 1, 2, (("now", 1, 1, 1),))))
        rows = ((0, None), (None, 0))
        self.assertEqual(tours.layers(web, 3), (
            (rows,) * 3, (rows, None, rows), (None, None, rows), (None, None, rows)))
        # One that needs an excursion of the move behind.
        web = Web(("x",), ("a", "b"), (("m", 0, 1, (("now", 0, 1, 3),)), ("n", 1, 1, (("now", 1, 0, -2), ("rise", 1, 1, 0)))))
        found = tours.layers(web, 3)
        self.assertEqual([[told_rows is None for told_rows in layer] for layer in found],
                         [[False, False], [False, False], [True, False], [True, False]])
        self.assertEqual(found[1], (rows, ((0, None), (-2, 0))))
        # A ring of excursions at the state itself.
        web = Web(("x",), ("a",), (("m", 0, 0, (("rise", 1, 0, 1), ("fall", 1, 0, 1))),))
        self.assertEqual(tours.layers(web, 1), ((rows,), (None,)))
        web = Web(("x",), ("a",), (("m", 0, 0, (("rise", 0, 0, 1),)),))
        self.assertEqual(tours.layers(web, 2), ((rows,), (None,), (None,)))

    def test_layer_rows(self):
        for web in (TANK, drifting_web(), Web((), ("a",), (("m", 0, 0, (("now", 0, 0, 1),)),))):
            found = tours.layers(web, 5)
            self.assertEqual(len(found), 6)
            for at in range(5):
                self.assertEqual(tours.layer_rows(web, found[at]), found[at + 1])

    def test_layers_by_the_words(self):
        draw = random.Random(1)
        rings, others = 0, 0
        for _ in range(150):
            web = random_web(draw, 2, 2, 3, 4, -3, 2)
            found = tours.layers(web, 3)
            for most in range(4):
                for state in range(2):
                    rows = tree(web, state, most)
                    rings += rows is None
                    others += rows is not None
                    self.assertEqual(found[most][state], None if rows is None else tuple([
                        tuple([rows.get((i, j)) for j in range(3)]) for i in range(3)]))
        self.assertTrue(rings > 100 and others > 100, (rings, others))

    def test_wrong_most(self):
        for value in STRANGE + [None, -1, 501, 10 ** 400, "1", (1,)]:
            with self.assertRaises(InvalidNumber, msg=told(value)) as caught:
                tours.layers(TANK, value)
            self.assertEqual(caught.exception.word, "most")
            with self.assertRaises(InvalidNumber) as caught:
                tours.is_held_for(TANK, 0, (0,), value)
            self.assertEqual(caught.exception.word, "most")
        for value in ODD:
            if told(value) not in ("0", "1", "7"):
                with self.assertRaises(InvalidNumber):
                    tours.layers(TANK, value)
        self.assertEqual(len(tours.layers(TANK, 500)), 501)
        self.assertEqual(tours.layers(web=TANK, most=1)[1], (((0, None), (-4, 0)),))

    def test_wrong_values(self):
        for value, at in ((None, -1), ([0], -1), ((0, 0), -1), ((None,), 0), ((10 ** 9 + 1,), 0), ((True,), 0), ("a", -1)):
            for most in (0, 5, 501, None):
                with self.assertRaises(InvalidValues) as caught:
                    tours.is_held_for(TANK, 0, value, most)
                self.assertEqual(caught.exception.at, at)

    def test_keeps_rows(self):
        rows = ((0, 2, None), (-9, 0, 3), (None, -4, 0))
        self.assertIs(tours.keeps_rows(rows, (2, 5)), True)
        self.assertIs(tours.keeps_rows(rows, (9, 13)), True)
        for values in ((1, 5), (10, 13), (2, 4), (2, 7)):
            self.assertIs(tours.keeps_rows(rows, values), False, values)
        self.assertIs(tours.keeps_rows(((0,),), ()), True)
        self.assertIs(tours.keeps_rows(((0, None), (None, 0)), (10 ** 400,)), True)
        self.assertIs(tours.keeps_rows(((0, 10 ** 400), (None, 0)), (10 ** 400,)), True)
        self.assertIs(tours.keeps_rows(((1, None), (None, 0)), (3,)), False)

    def test_is_held_for(self):
        found = [[tours.is_held_for(TANK, 0, (level,), most) for most in range(8)] for level in (-10 ** 9, 0, 4, 5, 10 ** 9)]
        self.assertEqual(found, [[True] * 8, [True] * 6 + [False] * 2, [True] * 2 + [False] * 6,
                                 [True] + [False] * 7, [True] + [False] * 7])
        broken = Web(("x",), ("a", "b"), (("m", 0, 1, (("now", 0, 0, 1),)),))
        self.assertEqual([tours.is_held_for(broken, state, (0,), most) for state in (0, 1) for most in (0, 1)],
                         [True, False, True, True])

    def check_held(self, web, most, span, found):
        kept = {}
        for state in range(len(web.states)):
            for values in product(span, repeat=len(web.quantities)):
                held = held_by_trial(web, state, values, most, kept)
                found.append(held)
                self.assertEqual(tours.is_held_for(web, state, values, most), held, (web.moves, state, values, most))

    def test_held_by_trial(self):
        draw = random.Random(2)
        found = []
        for _ in range(80):
            self.check_held(random_web(draw, 1, 2, 3, 4, -3, 2), 3, range(-5, 6), found)
        for _ in range(60):
            self.check_held(random_web(draw, 2, 2, 2, 4, -2, 1), 2, (-2, 0, 1), found)
        for _ in range(20):
            self.check_held(random_web(draw, 0, 3, 4, 1, -1, 1), 4, (), found)
        self.assertTrue(500 < sum(found) < len(found) - 500, (sum(found), len(found)))

    def test_great(self):
        draw = random.Random(3)
        webs = [drifting_web(), great_web(draw, -10 ** 6, -999990), great_web(draw, -10 ** 6, 10 ** 6), great_web(draw, -5, 0),
                Web(NAMES, STATES, tuple([("m", 0, 0, (("now", 1, 2, 1),) * 30)] * 40))]
        for web in webs:
            found = tours.layers(web, 500)
            self.assertEqual(len(found), 501)
            self.assertEqual(tours.layer_rows(web, found[499]), found[500])
            self.assertIn(tours.is_held_for(web, 7, (10 ** 9,) * 6, 500), (True, False))
        # It rises by one each time, and there is room for 500 and more.
        self.assertEqual([tours.layers(webs[0], most)[most][0][1][0] for most in (1, 2, 500)], [-999999, -999998, -999500])


if __name__ == "__main__":
    unittest.main()
