import random
import unittest
from itertools import product

from heldalways import tourpapers
from heldalways.errors import InvalidNumber, Refused
from heldalways.excursions import are_items, chain_depth, chain_weight, is_chain, is_ring
from heldalways.tours import layers, move_arcs
from heldalways.webs import Web, moves_from
from helping import NAMES, STATES, drifting_web, great_web, random_web
from odd import STRANGE, told
from test_tours import walks

GROUND = ("ground", 0)
TANK = Web(("level",), ("on",), (("rain", 0, 0, (("rise", 1, 1, 1), ("now", 1, 0, -5))),))
DRY = Web(("level",), ("dry", "wet"), (("m", 0, 1, ()), ("rain", 1, 1, (("rise", 1, 1, 1), ("fall", 1, 1, 0)))))


def excursions_of(web, items, level, move):
    """For each two points the greatest weight of an excursion by a move of items of a level; None for a ring."""
    points = range(len(web.quantities) + 1)
    along, into, back = {}, [], []
    for side, i, far, j, weight, _ in move_arcs(web, move):
        if side == "old":
            into.append((i, j, weight))
        elif far == "old":
            back.append((i, j, weight))
        else:
            along.setdefault((i, j), []).append(weight)
    for state, i, j in level:
        if state == web.moves[move][2]:
            along.setdefault((i, j), []).append(items[level[state, i, j]][4])
    if any([max(walks(along, at, at, points)) > 0 for at in points]):
        return None
    found = {}
    for (i, a, first), (b, j, last) in product(into, back):
        for weight in walks(along, a, b, points):
            found[i, j] = max(found.get((i, j), first + weight + last), first + weight + last)
    return found


class Papers(unittest.TestCase):
    def check_level(self, web, items, level, found, behind, broken):
        """Whether items and a level are such as next_items may return."""
        self.assertEqual(found[:len(items)], tuple(items))
        self.assertIs(are_items(web, found), True)
        expected = {}
        for state in range(len(web.states)):
            told_rows = [None if web.moves[at][2] in broken else excursions_of(web, items, level, at) for at in moves_from(web, state)]
            if None not in told_rows:
                for rows in told_rows:
                    for (i, j), weight in rows.items():
                        expected[state, i, j] = max(expected.get((state, i, j), weight), weight)
        self.assertEqual(sorted(behind), sorted(expected))
        used = []
        for label, weight in expected.items():
            item = found[behind[label]]
            self.assertEqual(item[:3], label)
            if label in level and items[level[label]][4] >= weight:
                self.assertEqual(behind[label], level[label])
            else:
                self.assertGreaterEqual(behind[label], len(items))
                self.assertEqual(item[4], weight)
                used.append(behind[label])
                self.assertTrue(all([number in level.values() for word, number in item[6] if word == "tour"]))
        self.assertEqual(sorted(used), list(range(len(items), len(found))))


class NextItems(Papers):
    def test_example(self):
        items, level = tourpapers.next_items(TANK, (), {})
        self.assertEqual(items, tuple([items[level[label]] for label in level]))
        self.assertEqual(sorted(items), [(0, 0, 0, 1, 0, 0, (GROUND, GROUND)), (0, 1, 0, 1, -4, 0, (("rule", 0), ("rule", 1), GROUND))])
        more, behind = tourpapers.next_items(TANK, items, level)
        self.assertEqual(more[:2], items)
        self.assertEqual(more[2:], ((0, 1, 0, 2, -3, 0, (("rule", 0), ("tour", level[0, 1, 0]), GROUND)),))
        self.assertEqual(behind, {(0, 0, 0): level[0, 0, 0], (0, 1, 0): 2})

    def test_broken(self):
        items, level = tourpapers.next_items(DRY, (), {})
        self.assertEqual(sorted(level), [(0, 0, 0), (1, 0, 0), (1, 1, 1)])
        self.assertEqual(sorted(tourpapers.next_items(DRY, (), {}, (0,))[1]), [(0, 0, 0), (1, 0, 0), (1, 1, 1)])
        self.assertEqual(sorted(tourpapers.next_items(DRY, (), {}, broken=(1,))[1]), [])
        # At the state "wet" there is a ring now: no move that leads there is looked at.
        self.assertEqual(sorted(tourpapers.next_items(DRY, items, level)[1]), [])

    def test_levels_of_any_kind(self):
        # An item that is heavier than what the level makes stays; one that is not made of it goes.
        steps = (("rule", 0), ("rule", 1), GROUND)
        first = (0, 1, 0, 1, -4, 0, steps)
        second = (0, 1, 0, 2, -3, 0, (("rule", 0), ("tour", 0), GROUND))
        items = (first, second)
        found, level = tourpapers.next_items(TANK, items, {(0, 1, 0): 1})
        self.check_level(TANK, items, {(0, 1, 0): 1}, found, level, ())
        found, level = tourpapers.next_items(TANK, items, {(0, 1, 0): 0})
        self.check_level(TANK, items, {(0, 1, 0): 0}, found, level, ())
        ground = (0, 0, 0, 1, 0, 0, (GROUND, GROUND))
        cut = Web(("level",), ("dry", "wet"), (("m", 0, 1, ()), ("n", 1, 0, (("rise", 1, 1, 0), ("fall", 1, 1, 0)))))
        off = (1, 1, 1, 1, 0, 1, (("rule", 0), ("rule", 1)))
        found, level = tourpapers.next_items(cut, (ground, off), {(1, 1, 1): 1})
        self.check_level(cut, (ground, off), {(1, 1, 1): 1}, found, level, ())

    def test_by_the_words(self):
        draw = random.Random(1)
        rings = 0
        for _ in range(80):
            web = random_web(draw, 2, 2, 3, 4, -3, 2)
            items, level = (), {}
            for _ in range(4):
                broken = draw.choice(((), (), (0,), (1,)))
                kept = (items, dict(level))
                found, behind = tourpapers.next_items(web, items, level, broken)
                self.assertEqual((items, level), kept)
                self.check_level(web, items, level, found, behind, broken)
                rings += broken == () and behind == {}
                level = {label: behind[label] for label in behind if draw.random() < 0.9} if behind else level
                items = found
        self.assertGreater(rings, 10)


class BestItems(Papers):
    def check(self, web, most):
        items, levels = tourpapers.best_items(web, most)
        self.assertIs(are_items(web, items), True)
        self.assertEqual(len(levels), most + 1)
        self.assertEqual(levels[0], {})
        told_layers = layers(web, most)
        for at, level in enumerate(levels):
            for label, number in level.items():
                self.assertEqual(items[number][:3], label)
                self.assertLessEqual(items[number][3], at)
                self.assertIsNotNone(told_layers[at][label[0]])
                before = levels[at - 1].get(label)
                if before is not None and items[before][4] == items[number][4]:
                    self.assertEqual(number, before)
            if at > 0:
                broken = [state for state, rows in enumerate(told_layers[at - 1]) if rows is None]
                expected = {}
                for state, rows in enumerate(told_layers[at]):
                    if rows is not None:
                        for move in moves_from(web, state):
                            self.assertNotIn(web.moves[move][2], broken)
                            for (i, j), weight in excursions_of(web, items, levels[at - 1], move).items():
                                expected[state, i, j] = max(expected.get((state, i, j), weight), weight)
                self.assertEqual({label: items[number][4] for label, number in level.items()}, expected)
        return items, levels, told_layers

    def test_by_the_words(self):
        draw = random.Random(2)
        for _ in range(100):
            web = random_web(draw, draw.randrange(3), 2, 3, 4, -3, 2)
            items, levels, told_layers = self.check(web, 4)
            # The tours of the items weigh as much as the layers tell.
            for level, layer in zip(levels, told_layers):
                for state, rows in enumerate(layer):
                    if rows is not None:
                        points = range(len(rows))
                        arcs = {label[1:]: [items[level[label]][4]] for label in level if label[0] == state}
                        for i, j in product(points, points):
                            weights = walks(arcs, i, j, points)
                            self.assertEqual(rows[i][j], max(weights) if weights else None)

    def test_levels_may_be_changed(self):
        _, levels = tourpapers.best_items(Web((), ("a",), (("m", 0, 0, ()),)), 9)
        levels[5].clear()
        self.assertEqual([len(level) for level in levels], [0, 1, 1, 1, 1, 0, 1, 1, 1, 1])

    def test_great(self):
        draw = random.Random(3)
        for web in (drifting_web(), great_web(draw, -10 ** 6, -999990), great_web(draw, -5, 0), great_web(draw, -10 ** 6, 10 ** 6)):
            items, levels = tourpapers.best_items(web, 500)
            self.assertEqual(len(levels), 501)
            self.assertIs(are_items(web, items), True)


class FewItems(Papers):
    def test_few(self):
        items, levels = tourpapers.best_items(TANK, 9)
        last = levels[9][0, 1, 0]
        few, numbers = tourpapers.few_items(items, (last, levels[2][0, 1, 0], last))
        self.assertEqual(len(few), 9)
        self.assertEqual(numbers, (8, 1, 8))
        self.assertIs(are_items(TANK, few), True)
        self.assertEqual([few[at][:6] for at in numbers], [items[at][:6] for at in (last, levels[2][0, 1, 0], last)])
        self.assertEqual(tourpapers.few_items(items, ()), ((), ()))
        self.assertEqual(tourpapers.few_items(items, tuple(range(len(items)))), (items, tuple(range(len(items)))))

    def test_by_trial(self):
        draw = random.Random(4)
        for _ in range(60):
            web = random_web(draw, 2, 2, 3, 4, -3, 1)
            items = tourpapers.best_items(web, 4)[0]
            numbers = tuple([draw.randrange(len(items)) for _ in range(2)]) if items else ()
            needed = set(numbers)
            for at in reversed(range(len(items))):
                if at in needed:
                    needed |= {number for word, number in items[at][6] if word == "tour"}
            few, found = tourpapers.few_items(items, numbers)
            self.assertEqual([item[:6] for item in few], [items[at][:6] for at in sorted(needed)])
            self.assertEqual([sorted(needed)[at] for at in found], list(numbers))
            self.assertIs(are_items(web, few), True)


class HeaviestTours(Papers):
    def test_example(self):
        items, chain = tourpapers.heaviest_tour(TANK, 0, 1, 0, 3)
        self.assertEqual((chain_weight(items, chain), chain_depth(items, chain)), (-2, 3))
        self.assertIsNone(tourpapers.heaviest_tour(TANK, 0, 0, 1, 3))
        self.assertEqual(tourpapers.heaviest_tour(TANK, 0, 1, 1, most=3)[1], ())
        with self.assertRaises(Refused) as caught:
            tourpapers.heaviest_tour(DRY, 0, 0, 1, 3)
        self.assertEqual(caught.exception.word, "ring")
        self.assertIsNone(tourpapers.heaviest_tour(DRY, 0, 0, 1, 1))

    def test_by_the_layers(self):
        draw = random.Random(5)
        tours, rings = 0, 0
        for _ in range(120):
            web = random_web(draw, 2, 3, 4, 4, -3, 2)
            found = layers(web, 4)
            for state, most in product(range(3), (0, 1, 4)):
                rows = found[most][state]
                ring = tourpapers.first_ring(web, state, most)
                self.assertEqual(ring is None, rows is not None)
                if rows is None:
                    rings += 1
                    self.check_ring(web, state, most, ring)
                for one, other in product(range(3), range(3)):
                    if rows is None:
                        with self.assertRaises(Refused):
                            tourpapers.heaviest_tour(web, state, one, other, most)
                        continue
                    tour = tourpapers.heaviest_tour(web, state, one, other, most)
                    self.assertEqual(tour is None, rows[one][other] is None)
                    if tour is not None:
                        items, chain = tour
                        tours += len(chain) > 0
                        self.assertIs(are_items(web, items), True)
                        self.assertIs(is_chain(web, items, state, one, other, chain), True)
                        self.assertEqual(chain_weight(items, chain), rows[one][other])
                        self.assertLessEqual(chain_depth(items, chain), most)
        self.assertTrue(tours > 200 and rings > 100, (tours, rings))

    def check_ring(self, web, state, most, ring):
        """Whether the tree of the state has a ring: so many moves may lead there, and it is no deeper."""
        items, place, move, begin, steps = ring
        self.assertIs(are_items(web, items), True)
        self.assertIs(is_ring(web, items, place, move, begin, steps), True)
        depth = max([0] + [items[number][3] for word, number in steps if word == "tour"])
        ends, right = {(state, None)}, False
        for many in range(most + 1):
            right = right or depth <= most - many and any([end == place and move in (None, last) for end, last in ends])
            ends = {(web.moves[at][2], at) for end, _ in ends for at in moves_from(web, end)}
        self.assertTrue(right, (ring, most))

    def test_rings(self):
        self.assertEqual([tourpapers.first_ring(DRY, 0, most) is None for most in range(4)], [True, True, False, False])
        self.assertEqual([tourpapers.first_ring(DRY, 1, most) is None for most in range(4)], [True, False, False, False])
        now = Web(("x",), ("a", "b"), (("m", 0, 1, (("now", 1, 0, -3), ("now", 0, 1, 4))),))
        items, place, move, begin, steps = tourpapers.first_ring(now, 0, 1)
        self.assertEqual((items, place, move), ((), 1, 0))
        self.assertIs(is_ring(now, (), 1, 0, begin, steps), True)
        self.assertIsNone(tourpapers.first_ring(now, 1, 500))
        self.assertIsNone(tourpapers.first_ring(TANK, 0, 500))

    def test_wrong_most(self):
        for value in STRANGE + [None, -1, 501, 10 ** 400]:
            for call, parts in ((tourpapers.best_items, ()), (tourpapers.heaviest_tour, (0, 1, 0)), (tourpapers.first_ring, (0,))):
                for web in (TANK, DRY):
                    with self.assertRaises(InvalidNumber, msg=told(value)) as caught:
                        call(web, *parts, value)
                    self.assertEqual(caught.exception.word, "most")

    def test_great(self):
        web = drifting_web()
        items, chain = tourpapers.heaviest_tour(web, 0, 1, 0, 500)
        self.assertEqual((chain_weight(items, chain), chain_depth(items, chain)), (-999500, 500))
        self.assertIsNone(tourpapers.first_ring(web, 0, 500))
        # Each day names the one before twice, so that written out it would be endless.
        rules = (("rise", 1, 1, 1), ("rise", 2, 2, 1), ("fall", 1, 2, -3), ("fall", 2, 1, -3), ("now", 1, 2, -9), ("now", 2, 1, -9))
        web = Web(NAMES, STATES, tuple([("m", at, (at + 1) % 8, rules + (("now", 1, 0, -10 ** 6),)) for at in range(8)]))
        items, chain = tourpapers.heaviest_tour(web, 0, 1, 0, 500)
        self.assertIs(is_chain(web, items, 0, 1, 0, chain), True)
        self.assertEqual(chain_weight(items, chain), layers(web, 500)[500][0][1][0])


if __name__ == "__main__":
    unittest.main()
