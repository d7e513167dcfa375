import random
import unittest
from itertools import product

from heldalways import excursions
from heldalways.tourpapers import best_items
from heldalways.tours import move_arcs
from heldalways.webs import Web
from helping import NAMES, STATES, drifting_web, random_web
from odd import ODD, STRANGE, resized, spoiled, told

GROUND = ("ground", 0)
RULES = (("rise", 1, 1, 1), ("now", 1, 0, -5), ("fall", 1, 2, 3), ("rise", 0, 2, -7), ("now", 2, 1, 4), ("fall", 0, 1, 6))
WEB = Web(("x", "y"), ("a", "b"), (("m", 0, 1, RULES), ("n", 1, 0, (("rise", 2, 1, 2), ("fall", 2, 1, 1)))))
# At b by n: from y to y, 2 + 1. At a by m: from x along the rule 0, and along what is told at b.
FIRST = (1, 2, 2, 1, 3, 1, (("rule", 0), ("rule", 1)))
SECOND = (0, 1, 0, 1, -4, 0, (("rule", 0), ("rule", 1), GROUND))
THIRD = (0, 0, 1, 2, -1, 0, (("rule", 3), ("tour", 0), ("tour", 0), ("rule", 2)))
FOURTH = (1, 0, 0, 1, 0, 1, (GROUND, GROUND))
FIFTH = (0, 0, 0, 2, 0, 0, (GROUND, ("tour", 3), ("tour", 3), GROUND))
ITEMS = (FIRST, SECOND, (0, 0, 1, 2, 2, 0, (("rule", 3), ("tour", 0), ("tour", 0), ("rule", 2))), FOURTH, FIFTH)


def follows(web, items, state, move, at, step):
    """The pairs of where a step between leads and its item, by the words of points 29 and 26."""
    found = []
    if step[0] == "tour" and 0 <= step[1] < len(items):
        item = items[step[1]]
        if item[0] == state and item[1] == at:
            found.append((item[2], item[4], item[3]))
    if move is not None:
        for side, i, far, j, weight, named in move_arcs(web, move):
            if (side, far, i) == ("new", "new", at) and named == step:
                found.append((j, weight, 0))
    return found


def right_item(web, earlier, item):
    """Whether a tuple of the form of an item names an excursion."""
    state, one, other, depth, weight, move, steps = item
    if not 0 <= move < len(web.moves) or web.moves[move][1] != state or len(steps) < 2:
        return False
    arcs = move_arcs(web, move)
    first = [(j, w, 0) for side, i, far, j, w, named in arcs if (side, far, i, named) == ("old", "new", one, steps[0])]
    for step in steps[1:-1]:
        first = [(j, w + more, max(deep, deeper)) for at, w, deep in first
                 for j, more, deeper in follows(web, earlier, web.moves[move][2], move, at, step)]
    last = [(j, w + more, deep + 1) for at, w, deep in first for side, i, far, j, more, named in arcs
            if (side, far, i, named) == ("new", "old", at, steps[-1])]
    return last == [(other, weight, depth)]


class Point29(unittest.TestCase):
    def test_items(self):
        self.assertIs(excursions.are_items(WEB, ()), True)
        for many in range(6):
            self.assertIs(excursions.are_items(WEB, ITEMS[:many]), True, many)
        self.assertIs(excursions.are_items(WEB, (THIRD,)), False)
        self.assertIs(excursions.are_items(WEB, (FIRST, SECOND, THIRD)), False)
        self.assertIs(excursions.are_items(WEB, (SECOND, FIRST)), True)
        self.assertIs(excursions.are_items(WEB, (SECOND, FIRST, ITEMS[2])), False)
        # An item is made of earlier ones alone.
        itself = (0, 0, 0, 1, 0, 0, (GROUND, ("tour", 0), GROUND))
        self.assertIs(excursions.are_items(Web((), ("a",), (("m", 0, 0, ()),)), (itself,)), False)
        self.assertIs(excursions.are_items(WEB, (FIRST, SECOND, (*ITEMS[2][:6], (("rule", 3), ("tour", 3), ("rule", 2))))), False)

    def test_ground_arcs(self):
        self.assertIs(excursions.are_items(WEB, ((0, 0, 0, 1, 0, 0, (GROUND, GROUND)),)), True)
        for steps in ((GROUND,), (), (GROUND, GROUND, GROUND), (("ground", 1), GROUND), (GROUND, ("ground", False)),
                      (("rule", 5), GROUND), (GROUND, ("rule", 3)), (GROUND, ("tour", 0)), (GROUND, ["ground", 0])):
            self.assertIs(excursions.are_items(WEB, ((0, 0, 0, 1, 0, 0, steps),)), False, steps)
        self.assertIs(excursions.are_items(WEB, ((0, 1, 0, 1, 0, 0, (GROUND, GROUND)),)), False)
        self.assertIs(excursions.are_items(WEB, ((0, 1, 0, 1, 1, 0, (("rule", 0), GROUND)),)), False)
        self.assertIs(excursions.are_items(WEB, ((0, 1, 0, 1, 7, 0, (("rule", 0), ("rule", 5))),)), True)

    def test_one_number_wrong(self):
        for at, item in enumerate(ITEMS):
            for place in range(6):
                for by in (-2, -1, 1, 2, 10 ** 400):
                    wrong = item[:place] + (item[place] + by,) + item[place + 1:]
                    self.assertIs(excursions.are_items(WEB, ITEMS[:at] + (wrong,)), False, told(wrong))

    def test_any_value(self):
        for value in ODD:
            if told(value) != "()":
                self.assertIs(excursions.are_items(WEB, value), False, told(value))
                self.assertIs(excursions.are_items(WEB, (FIRST, value)), False, told(value))
        for wrong in [*spoiled(ITEMS[2], STRANGE + [None, -1, 5, ""]), *resized(ITEMS[2])]:
            self.assertIs(excursions.are_items(WEB, (FIRST, SECOND, wrong)), False, told(wrong))
        self.assertIs(excursions.are_items(WEB, list(ITEMS)), False)

    def test_against_the_words(self):
        draw = random.Random(1)
        right, wrong = 0, 0
        for _ in range(60):
            web = random_web(draw, 2, 2, 4, 5, -3, 2)
            items = best_items(web, 3)[0]
            self.assertIs(excursions.are_items(web, items), True)
            for at, item in enumerate(items):
                self.assertTrue(right_item(web, items[:at], item))
                for _ in range(6):
                    steps = list(item[6])
                    place = draw.randrange(len(steps))
                    words = (GROUND, ("rule", draw.randrange(5)), ("tour", draw.randrange(at + 2)))
                    steps[place:place + draw.randrange(2)] = [draw.choice(words)]
                    other = (*item[:6], tuple(steps))
                    expected = right_item(web, items[:at], other)
                    self.assertIs(excursions.are_items(web, items[:at] + (other,) + items[at + 1:]), expected, other)
                    right += expected
                    wrong += not expected
        self.assertTrue(right > 20 and wrong > 200, (right, wrong))

    def test_walk_told(self):
        self.assertEqual(excursions.walk_told(WEB, ITEMS, 1, 0, 2, (("tour", 0), ("rule", 4), ("rule", 1))), (0, 2, 1))
        self.assertEqual(excursions.walk_told(WEB, ITEMS, 1, None, 2, (("tour", 0), ("tour", 0))), (2, 6, 1))
        self.assertEqual(excursions.walk_told(WEB, ITEMS, 0, 1, 0, (("tour", 2), ("tour", 1))), (0, -2, 2))
        self.assertEqual(excursions.walk_told(WEB, ITEMS, 0, None, 2, ()), (2, 0, 0))
        self.assertEqual(excursions.walk_told(WEB, ITEMS, 1, 0, 2, (("rule", 4),)), (1, 4, 0))
        for state, move, begin, steps in (
                (1, 1, 2, ()), (0, 0, 2, ()), (2, None, 0, ()), (-1, None, 0, ()), (1, 0, 3, ()), (1, 0, -1, ()), (1, 2, 0, ()),
                (1, None, 2, (("rule", 4),)), (1, 0, 2, (("rule", 1),)), (1, 0, 1, (("rule", 0),)), (1, 0, 2, (("tour", 1),)),
                (1, 0, 1, (("tour", 0),)), (1, 0, 2, (("tour", 5),)), (1, 0, 0, (GROUND,)), (1, 0, 2, [("tour", 0)]),
                (1, 0, 2, (("tour", -5),)), (1, 0, 0, (("rule", 6),)), (1, 0, 2, (("tour", 0), ("tour", 0), ("rule", 5)))):
            self.assertIsNone(excursions.walk_told(WEB, ITEMS, state, move, begin, steps), (state, move, begin, steps))

    def test_walk_told_any_values(self):
        for value in ODD:
            word = told(value)
            if word not in ("0", "1"):
                self.assertIsNone(excursions.walk_told(WEB, ITEMS, value, None, 0, ()), word)
            if word not in ("0", "None"):
                self.assertIsNone(excursions.walk_told(WEB, ITEMS, 1, value, 0, ()), word)
            if word not in ("0", "1"):
                self.assertIsNone(excursions.walk_told(WEB, ITEMS, 1, 0, value, ()), word)
            if word != "()":
                self.assertIsNone(excursions.walk_told(WEB, ITEMS, 1, 0, 2, value), word)
                self.assertIsNone(excursions.walk_told(WEB, ITEMS, 1, 0, 2, (value,)), word)
            self.assertIsNone(excursions.walk_told(WEB, ITEMS, value, value, value, value), word)
        for steps in spoiled((("tour", 0), ("rule", 4)), STRANGE + [None, "", "ground"]):
            self.assertIsNone(excursions.walk_told(WEB, ITEMS, 1, 0, 2, steps), told(steps))


class Point30(unittest.TestCase):
    def test_chains(self):
        self.assertIs(excursions.is_chain(WEB, ITEMS, 0, 1, 1, ()), True)
        self.assertIs(excursions.is_chain(WEB, ITEMS, 0, 1, 0, ()), False)
        self.assertIs(excursions.is_chain(WEB, ITEMS, 0, 1, 0, (1,)), True)
        self.assertIs(excursions.is_chain(WEB, ITEMS, 0, 1, 1, (1, 2)), True)
        self.assertIs(excursions.is_chain(WEB, ITEMS, 0, 1, 1, (1, 4, 4, 2)), True)
        for chain in ((2, 1), (1, 1), (1,), (0,), (1, 5), (1, -3), [1, 2], (1, 2.0), (1, True), (True, 2)):
            self.assertIs(excursions.is_chain(WEB, ITEMS, 0, 1, 1, chain), False, chain)
        self.assertIs(excursions.is_chain(WEB, ITEMS, 1, 1, 0, (1,)), False)
        self.assertIs(excursions.is_chain(WEB, ITEMS, 1, 2, 2, (0, 0, 0)), True)
        for value in ODD:
            if told(value) != "()":
                self.assertIs(excursions.is_chain(WEB, ITEMS, 0, 1, 1, value), False, told(value))
                self.assertIs(excursions.is_chain(WEB, ITEMS, 0, 1, 1, (value, 2)), told(value) == "1", told(value))

    def test_weight_and_depth(self):
        self.assertEqual([excursions.chain_weight(ITEMS, chain) for chain in ((), (1,), (1, 2), (1, 4, 4, 2))], [0, -4, -2, -2])
        self.assertEqual([excursions.chain_depth(ITEMS, chain) for chain in ((), (1,), (1, 2), (0, 0))], [0, 1, 2, 1])
        self.assertEqual((excursions.chain_weight((), ()), excursions.chain_depth((), ())), (0, 0))

    def test_rings(self):
        self.assertIs(excursions.is_ring(WEB, ITEMS, 1, None, 2, (("tour", 0),)), True)
        self.assertIs(excursions.is_ring(WEB, ITEMS, 1, 0, 2, (("tour", 0),)), True)
        self.assertIs(excursions.is_ring(WEB, ITEMS, 1, 0, 2, (("rule", 4),)), False)
        self.assertIs(excursions.is_ring(WEB, ITEMS, 0, None, 1, (("tour", 1), ("tour", 2))), False)
        # A weight of 0 is not enough.
        self.assertIs(excursions.is_ring(WEB, ITEMS, 0, None, 0, (("tour", 4),)), False)
        self.assertIs(excursions.is_ring(WEB, ITEMS, 0, None, 0, ()), False)
        ring = Web(("x",), ("a",), (("m", 0, 0, (("now", 1, 0, -3), ("now", 0, 1, 4))),))
        self.assertIs(excursions.is_ring(ring, (), 0, 0, 0, (("rule", 1), ("rule", 0))), True)
        self.assertIs(excursions.is_ring(ring, (), 0, 0, 1, (("rule", 0), ("rule", 1))), True)
        self.assertIs(excursions.is_ring(ring, (), 0, None, 1, (("rule", 0), ("rule", 1))), False)
        self.assertIs(excursions.is_ring(ring, (), 0, 0, 0, (("rule", 1),)), False)
        for value in ODD:
            for parts in ((value, None, 2, (("tour", 0),)), (1, value, 0, (("tour", 0),)), (1, None, value, (("tour", 0),)),
                          (1, None, 2, value), (1, None, 2, (value,))):
                self.assertIs(excursions.is_ring(WEB, ITEMS, *parts), told(parts) == "(1, None, 2, (('tour', 0)))", told(parts))

    def test_great(self):
        # Each item names the one before twice: written out these would be 2 ** 3000.
        web = Web(("x",), ("a",), (("m", 0, 0, (("rise", 1, 1, 1), ("fall", 1, 1, 0))),))
        items = [(0, 1, 1, 1, 1, 0, (("rule", 0), ("rule", 1)))]
        for at in range(3000):
            items.append((0, 1, 1, at + 2, 2 * items[-1][4] + 1, 0, (("rule", 0), ("tour", at), ("tour", at), ("rule", 1))))
        self.assertIs(excursions.are_items(web, tuple(items)), True)
        self.assertEqual(excursions.chain_weight(items, (3000, 0)), 2 ** 3001)
        self.assertEqual(excursions.chain_depth(items, (5, 3000)), 3001)
        self.assertIs(excursions.are_items(web, tuple(items[:-1]) + ((*items[-1][:4], items[-1][4] + 1, *items[-1][5:]),)), False)
        self.assertEqual(excursions.walk_told(web, items, 0, 0, 1, (("tour", 3000),)), (1, items[-1][4], 3001))
        self.assertIs(excursions.are_items(drifting_web(), best_items(drifting_web(), 60)[0]), True)


if __name__ == "__main__":
    unittest.main()
