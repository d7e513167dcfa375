import random
import unittest
from itertools import product

from heldalways import shapes
from heldalways.errors import InvalidNumber, Refused
from heldalways.tours import is_held_for
from heldalways.webs import Web, renamed_web, sharp_rules, without_moves
from helping import NAMES, STATES, drifting_web, great_web, held_by_trial, random_web
from odd import ODD, STRANGE, told

UP, UPS = (("rise", 1, 1, 1),), (("rise", 1, 1, 0), ("rise", 1, 1, 1), ("now", 0, 0, -4))


def partitions(many):
    """All ways to divide so many states into lots, as tuples of the numbers of their lots."""
    found = [()]
    for _ in range(many):
        found = [(*one, lot) for one in found for lot in range(max(one, default=-1) + 2)]
    return found


def is_right(web, numbers):
    """Whether in each lot each move has a counterpart from each other state."""
    for one, other in product(range(len(web.states)), repeat=2):
        if numbers[one] == numbers[other]:
            for move in web.moves:
                if move[1] == one and not any(
                        [same[1] == other and sharp_rules(same[3]) == sharp_rules(move[3])
                         and numbers[same[2]] == numbers[move[2]] for same in web.moves]):
                    return False
    return True


class Shapes(unittest.TestCase):
    def refused(self, word, call, *told_values):
        with self.assertRaises(Refused) as caught:
            call(*told_values)
        self.assertEqual(caught.exception.word, word)

    def same_held(self, one, other, states, change=None, span=range(-3, 4)):
        """Whether what is held is the same, by layers and by trial."""
        kept = {}
        many = len(one.quantities)
        for state in range(len(one.states)):
            for values in product(span, repeat=many):
                changed = values if change is None else change(values)
                for most in range(4):
                    held = is_held_for(one, state, values, most)
                    self.assertEqual(held, is_held_for(other, states[state], changed, most))
                if many == 1:
                    self.assertEqual(held_by_trial(one, state, values, 2, kept), is_held_for(one, state, values, 2))


class Point9Alike(Shapes):
    def test_alike_states(self):
        web = Web(("x",), ("a", "b", "c", "d"), (
            ("m", 0, 2, UP), ("n", 1, 3, UPS), ("m", 1, 2, UP), ("k", 2, 2, ()), ("k", 3, 3, ()), ("k", 3, 2, ())))
        self.assertEqual(shapes.alike_states(web), ((0, 1), (2, 3)))
        joined, numbers = shapes.joined_states(web)
        self.assertEqual(numbers, (0, 0, 1, 1))
        self.assertEqual(joined, Web(("x",), ("a", "c"), (("m", 0, 1, UP), ("k", 1, 1, ()))))

    def test_not_alike(self):
        web = Web(("x",), ("a", "b", "c"), (("m", 0, 2, UP), ("m", 1, 2, (("rise", 1, 1, 2),))))
        self.assertEqual(shapes.alike_states(web), ((0,), (1,), (2,)))
        self.assertEqual(shapes.joined_states(web), (web, (0, 1, 2)))
        chain = Web((), STATES, tuple([("m", at, at + 1, ()) for at in range(7)]))
        self.assertEqual(shapes.alike_states(chain), tuple([(at,) for at in range(8)]))
        circle = Web((), STATES, tuple([("m", at, (at + 1) % 8, ()) for at in range(8)]))
        self.assertEqual(shapes.alike_states(circle), (tuple(range(8)),))
        self.assertEqual(shapes.joined_states(circle), (Web((), ("p",), (("m", 0, 0, ()),)), (0,) * 8))
        self.assertEqual(shapes.alike_states(Web((), ("a", "b", "c"), (("m", 1, 1, ()),))), ((0, 2), (1,)))

    def test_least_states_come_first(self):
        web = Web(("x",), ("a", "b", "c", "d"), (("m", 1, 0, UP), ("k", 3, 2, UPS), ("n", 3, 0, UP)))
        self.assertEqual(shapes.alike_states(web), ((0, 2), (1, 3)))
        self.assertEqual(shapes.joined_states(web), (Web(("x",), ("a", "b"), (("m", 1, 0, UP),)), (0, 1, 0, 1)))

    def test_by_trial(self):
        draw = random.Random(1)
        sizes = []
        for _ in range(150):
            web = random_web(draw, 1, 4, draw.randrange(2, 8), 1, 0, 1)
            ways = [numbers for numbers in partitions(4) if is_right(web, numbers)]
            alike = [[any([way[one] == way[other] for way in ways]) for other in range(4)] for one in range(4)]
            lots = {tuple([other for other in range(4) if alike[one][other]]) for one in range(4)}
            self.assertEqual(shapes.alike_states(web), tuple(sorted(lots)))
            sizes.append(len(lots))
            joined, numbers = shapes.joined_states(web)
            self.assertEqual(joined.states, tuple([web.states[lot[0]] for lot in sorted(lots)]))
            self.assertEqual(shapes.alike_states(joined), tuple([(at,) for at in range(len(joined.states))]))
            self.same_held(web, joined, numbers, span=range(-2, 3))
        self.assertTrue(len(set(sizes)) > 2)

    def test_idle_moves(self):
        web = Web(("x",), ("a", "b"), (("m", 0, 1, UP), ("n", 0, 1, UPS), ("o", 0, 1, (("rise", 1, 1, 2),)),
                                       ("p", 1, 1, ()), ("q", 0, 0, UP), ("r", 0, 1, ())))
        # The third move asks more than the first two, the last one less than all.
        self.assertEqual(shapes.idle_moves(web), (0, 1, 5))
        self.assertEqual(shapes.idle_moves(Web(("x",), ("a",), (("m", 0, 0, UP),) * 3)), (1, 2))
        both = (("m", 0, 0, (("rise", 1, 1, 2), ("now", 0, 1, 0))), ("n", 0, 0, (("rise", 1, 1, 1), ("now", 0, 1, 1))))
        self.assertEqual(shapes.idle_moves(Web(("x",), ("a",), both)), ())
        alike = Web(("x",), ("a", "b", "c"), (("m", 0, 1, ()), ("n", 0, 2, UP)))
        self.assertEqual(shapes.idle_moves(alike), (0,))
        apart = Web(("x",), ("a", "b", "c"), (("m", 0, 1, ()), ("n", 0, 2, UP), ("k", 2, 2, ())))
        self.assertEqual(shapes.idle_moves(apart), ())
        plain = Web(("x",), ("a",), (("m", 0, 0, (("rise", 0, 1, 3),)), ("n", 0, 0, (("now", 0, 1, 3), ("now", 1, 1, 0)))))
        self.assertEqual(shapes.idle_moves(plain), (1,))
        self.assertEqual(shapes.idle_moves(Web((), ("a",), ())), ())

    def test_idle_moves_by_trial(self):
        draw = random.Random(2)
        idle = 0
        for _ in range(150):
            web = random_web(draw, 1, 2, 5, 2, -1, 1)
            lot = shapes.idle_moves(web)
            idle += len(lot)
            self.same_held(web, without_moves(web, lot), (0, 1))
        self.assertGreater(idle, 60)


class Point9Pieces(Shapes):
    def test_pieces(self):
        def web(*rules):
            return Web(NAMES, ("a",), (("m", 0, 0, rules[:1]), ("n", 0, 0, rules[1:])))
        self.assertEqual(shapes.pieces_of(web()), ((1,), (2,), (3,), (4,), (5,), (6,)))
        self.assertEqual(shapes.pieces_of(web(("now", 2, 5, -9), ("fall", 6, 5, 0))), ((1,), (2, 5, 6), (3,), (4,)))
        self.assertEqual(shapes.pieces_of(web(("now", 0, 5, 0), ("rise", 6, 0, 0), ("now", 3, 3, 1))),
                         ((1,), (2,), (3,), (4,), (5,), (6,)))
        grounded = [("now", 0, at, 0) for at in range(1, 7)] + [("rise", at, 0, 0) for at in range(1, 7)]
        self.assertEqual(shapes.pieces_of(web(*grounded)), ((1,), (2,), (3,), (4,), (5,), (6,)))
        self.assertEqual(shapes.pieces_of(web(("rise", 6, 1, 0), ("now", 2, 4, 0), ("fall", 4, 6, 0))),
                         ((1, 2, 4, 6), (3,), (5,)))
        self.assertEqual(shapes.pieces_of(Web((), ("a",), ())), ())

    def test_web_of(self):
        rules = (("now", 0, 0, 4), ("rise", 1, 3, 5), ("now", 3, 0, 6), ("fall", 2, 2, 7), ("now", 2, 3, 8))
        web = Web(("x", "y", "z"), ("a",), (("m", 0, 0, rules), ("n", 0, 0, ())))
        self.assertEqual(shapes.web_of(web, ()), Web((), ("a",), (("m", 0, 0, rules[:1]), ("n", 0, 0, ()))))
        self.assertEqual(shapes.web_of(web, (1, 3)), Web(("x", "z"), ("a",), (
            ("m", 0, 0, (("now", 0, 0, 4), ("rise", 1, 2, 5), ("now", 2, 0, 6))), ("n", 0, 0, ()))))
        self.assertEqual(shapes.web_of(web, (2,)).moves[0][3], (("now", 0, 0, 4), ("fall", 1, 1, 7)))
        self.assertEqual(shapes.web_of(web, (1, 2, 3)), web)

    def test_held_in_pieces(self):
        draw = random.Random(3)
        pieces_seen, held_seen = [], []
        for _ in range(100):
            web = random_web(draw, 3, 2, 3, 3, -2, 1)
            lots = ((), *shapes.pieces_of(web))
            pieces_seen.append(len(lots))
            parts = [shapes.web_of(web, lot) for lot in lots]
            for values in product((-2, 0, 1), repeat=3):
                held = all([is_held_for(part, 0, shapes.values_of(values, lot), 3) for part, lot in zip(parts, lots)])
                held_seen.append(held)
                self.assertEqual(is_held_for(web, 0, values, 3), held)
        self.assertEqual(set(pieces_seen), {2, 3, 4})
        self.assertTrue(300 < sum(held_seen) < len(held_seen) - 300, sum(held_seen))


class Point9Changed(Shapes):
    WEB = Web(("x", "y"), ("a",), (("m", 0, 0, (("rise", 1, 2, 3), ("fall", 0, 1, 4), ("now", 1, 2, 5), ("now", 2, 2, 6))),))

    def rules(self, web):
        self.assertEqual((web.quantities, web.states, web.moves[0][:3]), (("x", "y"), ("a",), ("m", 0, 0)))
        return web.moves[0][3]

    def test_turned(self):
        turned = shapes.turned_web(self.WEB)
        self.assertEqual(self.rules(turned), (("fall", 1, 2, 3), ("rise", 0, 1, 4), ("now", 2, 1, 5), ("now", 2, 2, 6)))
        self.assertEqual(shapes.turned_web(turned), self.WEB)
        self.assertEqual(shapes.turned_values((3, -4, 0)), (-3, 4, 0))
        self.assertEqual(shapes.turned_values(()), ())

    def test_moved(self):
        moved = shapes.moved_web(self.WEB, (10, 100))
        self.assertEqual(self.rules(moved), (("rise", 1, 2, 93), ("fall", 0, 1, -6), ("now", 1, 2, 95), ("now", 2, 2, 6)))
        self.assertEqual(shapes.moved_web(moved, (-10, -100)), self.WEB)
        self.assertEqual(shapes.moved_values((3, -4), (10, 100)), (13, 96))
        at_most = Web(("x",), ("a",), (("m", 0, 0, (("now", 0, 1, 10 ** 6 - 1), ("now", 1, 1, 10 ** 6))),))
        self.assertEqual(shapes.moved_web(at_most, (1,)).moves[0][3][0][3], 10 ** 6)
        self.refused("size", shapes.moved_web, at_most, (2,))
        self.assertEqual(shapes.moved_web(at_most, (1 - 2 * 10 ** 6,)).moves[0][3][0][3], -10 ** 6)
        self.refused("size", shapes.moved_web, at_most, (-2 * 10 ** 6,))
        self.refused("size", shapes.moved_web, at_most, (10 ** 400,))
        self.assertEqual(shapes.moved_web(shapes.moved_web(self.WEB, (10 ** 5, 0)), (-10 ** 5, 0)), self.WEB)

    def test_stretched(self):
        stretched = shapes.stretched_web(self.WEB, 7)
        self.assertEqual([rule[3] for rule in self.rules(stretched)], [21, 28, 35, 42])
        self.assertEqual([rule[:3] for rule in self.rules(stretched)], [rule[:3] for rule in self.rules(self.WEB)])
        self.assertEqual(shapes.stretched_web(self.WEB, 1), self.WEB)
        self.assertEqual(shapes.stretched_web(self.WEB, 166666).moves[0][3][3][3], 999996)
        self.refused("size", shapes.stretched_web, self.WEB, 166667)
        self.refused("size", shapes.stretched_web, Web(("x",), ("a",), (("m", 0, 0, (("now", 0, 1, -500001),)),)), 2)
        empty = Web((), ("a",), ())
        self.assertEqual(shapes.stretched_web(empty, 10 ** 400), empty)
        for value in [*STRANGE, None, 0, -1, -10 ** 400, "1", (1,)]:
            with self.assertRaises(InvalidNumber, msg=told(value)) as caught:
                shapes.stretched_web(self.WEB, value)
            self.assertEqual(caught.exception.word, "factor")
        for value in ODD:
            if not isinstance(value, int) or isinstance(value, bool) or value < 1:
                with self.assertRaises(InvalidNumber):
                    shapes.stretched_web(drifting_web(), value)
        self.assertEqual(shapes.stretched_values((3, -4, 0), 5), (15, -20, 0))

    def test_held(self):
        draw = random.Random(4)
        for _ in range(40):
            web = random_web(draw, 1, 2, 3, 3, -2, 2)
            self.same_held(web, shapes.turned_web(web), (0, 1), change=shapes.turned_values)
            shift = draw.randint(-5, 5)
            self.same_held(web, shapes.moved_web(web, (shift,)), (0, 1),
                           change=lambda values, by=shift: shapes.moved_values(values, (by,)))
            factor = draw.randint(1, 4)
            self.same_held(web, shapes.stretched_web(web, factor), (0, 1),
                           change=lambda values, by=factor: shapes.stretched_values(values, by))
        for _ in range(25):
            web = random_web(draw, 2, 2, 3, 4, -2, 2)
            self.same_held(web, shapes.turned_web(web), (0, 1), change=shapes.turned_values, span=(-2, 0, 1))
            shifts = (draw.randint(-5, 5), draw.randint(-5, 5))
            self.same_held(web, shapes.moved_web(web, shifts), (0, 1), span=(-2, 0, 1),
                           change=lambda values, by=shifts: shapes.moved_values(values, by))


class Point8Values(Shapes):
    def test_placed_values(self):
        web = Web(("a", "b", "c"), ("p", "q"), ())
        _, places, _ = renamed_web(web, ("z", "b", "x"), ("w", "a"))
        self.assertEqual(shapes.placed_values((1, 2, 3), places), (2, 3, 1))
        self.assertEqual(shapes.placed_values((), (0,)), ())
        self.assertEqual(shapes.placed_values((5, 6), (0, 1, 2)), (5, 6))

    def test_values_of(self):
        self.assertEqual(shapes.values_of((7, 8, 9), (1, 3)), (7, 9))
        self.assertEqual(shapes.values_of((7, 8, 9), ()), ())
        self.assertEqual(shapes.values_of((7, 8, 9), (1, 2, 3)), (7, 8, 9))

    def test_renamed_webs_hold_placed_values(self):
        draw = random.Random(5)
        for _ in range(40):
            web = random_web(draw, 2, 2, 3, 4, -2, 2)
            names = tuple(draw.sample(("k", "l"), 2))
            other, places, states = renamed_web(web, names, tuple(draw.sample(("m", "n"), 2)))
            self.same_held(web, other, states, span=(-2, 0, 1),
                           change=lambda values, by=places: shapes.placed_values(values, by))

    def test_great(self):
        draw = random.Random(6)
        for web in (great_web(draw, -10 ** 6, 10 ** 6), drifting_web(), great_web(draw, -9, 9, 3)):
            self.assertEqual(sorted(sum(shapes.alike_states(web), ())), list(range(8)))
            joined, numbers = shapes.joined_states(web)
            self.assertEqual(len(joined.states), max(numbers) + 1)
            self.assertTrue(set(shapes.idle_moves(web)) < set(range(40)))
            self.assertEqual(sorted(sum(shapes.pieces_of(web), ())), [1, 2, 3, 4, 5, 6])
            self.assertEqual(shapes.web_of(web, (1, 2, 3, 4, 5, 6)), web)
            self.assertEqual(shapes.turned_web(shapes.turned_web(web)), web)


if __name__ == "__main__":
    unittest.main()
