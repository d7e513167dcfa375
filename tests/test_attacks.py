import random
import unittest

from heldalways import attacks
from heldalways.attacks import Heavy, March, Surge
from heldalways.excursions import are_items
from heldalways.levelled import pumped
from heldalways.pumps import Pump, Ring, is_pump, is_ring_paper
from heldalways.steps import is_script
from heldalways.tourpapers import climb
from heldalways.tours import every_state, is_held_for
from heldalways.webs import Web
from helping import random_items, random_web
from odd import ODD, STRANGE, resized, spoiled, told
from test_pumps import DAY, DAYS, GROUND, RAINS, TANK, days
from test_settle import rising_web

FAR = 10 ** 400
# At "b" there is a ring of the move "m", which starts at "a"; "d" leads to "a".
PARTS = Web(("x",), ("a", "b", "c", "d"), (("m", 0, 1, (("now", 0, 1, 4), ("now", 1, 0, -3))), ("n", 1, 1, ()), ("o", 3, 0, ())))
RING = Ring((), 1, 0, 0, (("rule", 0), ("rule", 1)))
# A ring of excursions at "b", without a move.
ROUND = Web(("x",), ("a", "b"), (("m", 0, 1, ()), ("n", 1, 1, (("rise", 1, 1, 1), ("fall", 1, 1, 0)))))
TURN = (1, 1, 1, 1, 1, 1, (("rule", 0), ("rule", 1)))
LONE = Ring((TURN,), 1, None, 1, (("tour", 0),))


def nests(items):
    """All nests of at least two items with the same label at both ends, the first the heavier one."""
    found = []
    ahead = [(at,) for at in range(len(items))]
    while ahead:
        nest = ahead.pop()
        for inner in sorted({number for word, number in items[nest[-1]][6] if word == "tour"}):
            ahead.append((*nest, inner))
            if items[inner][:3] == items[nest[0]][:3] and items[inner][4] < items[nest[0]][4]:
                found.append((*nest, inner))
    return found


def written_out(items, nest, place, rounds):
    """The items with the one for which a surge stands behind the others."""
    found = list(items)

    def add(place, rounds):
        if place + 1 < len(nest) - 1:
            new = add(place + 1, rounds)
        else:
            new = nest[-1] if rounds == 1 else add(0, rounds - 1)
        state, one, other, _, weight, move, steps = items[nest[place]]
        at = steps.index(("tour", nest[place + 1]))
        steps = steps[:at] + (("tour", new),) + steps[at + 1:]
        depth = 1 + max([found[number][3] for word, number in steps if word == "tour"])
        found.append((state, one, other, depth, weight + found[new][4] - items[nest[place + 1]][4], move, steps))
        return len(found) - 1
    add(place, rounds)
    return tuple(found)


class Point47(unittest.TestCase):
    def right(self, web, state, values, attack, expected=True):
        self.assertIs(attacks.is_attack(web, state, values, attack), expected)

    def test_classes(self):
        heavy, surge, march = Heavy(excursions=1, at=2), Surge(excursions=1, nest=[2], place=None, rounds="4"), March(script=5, paper=[])
        self.assertEqual((heavy.excursions, heavy.at), (1, 2))
        self.assertEqual((surge.excursions, surge.nest, surge.place, surge.rounds), (1, [2], None, "4"))
        self.assertEqual((march.script, march.paper), (5, []))

    def test_example(self):
        rains = Surge((DAY, DAYS), (1, 0), 0, 5)
        self.assertEqual((attacks.is_attack(TANK, 0, (0,), rains), attacks.is_attack(TANK, 0, (-1,), rains), attacks.most_moves(rains)),
                         (True, False, 6))

    def test_heavy(self):
        for at, level, right in ((0, 4, False), (0, 5, True), (1, 3, False), (1, 4, True), (2, 5, False), (-1, 9, False)):
            self.right(TANK, 0, (level,), Heavy((DAY, DAYS), at), right)
        self.assertEqual([attacks.most_moves(Heavy((DAY, DAYS), at)) for at in (0, 1)], [1, 2])
        two = Web(("level",), ("dry", "wet"), (TANK.moves[0], ("rain", 1, 1, ())))
        self.right(two, 0, (9,), Heavy((DAY,), 0))
        self.right(two, 1, (9,), Heavy((DAY,), 0), False)
        # The ends count in their sequence.
        rise = Web(("x", "y"), ("a",), (("m", 0, 0, (("rise", 1, 2, 3), ("fall", 2, 2, 1))),))
        item = (0, 1, 2, 1, 4, 0, (("rule", 0), ("rule", 1)))
        self.assertIs(are_items(rise, (item,)), True)
        for values, right in (((0, 3), True), ((0, 4), False), ((4, 0), True), ((-4, 0), False)):
            self.right(rise, 0, values, Heavy((item,), 0), right)

    def test_surge(self):
        for rounds in range(1, 9):
            for level in (-9, -3, 0, 3, 4):
                # It asks for one more with each round: 1 more than three levels below 0.
                self.right(TANK, 0, (level,), Surge((DAY, DAYS), (1, 0), 0, rounds), rounds - 4 > -level)
        self.assertEqual([attacks.most_moves(Surge((DAY, DAYS), (1, 0), 0, rounds)) for rounds in (1, 2, FAR)], [2, 3, FAR + 1])
        self.right(TANK, 0, (-10 ** 9,), Surge((DAY, DAYS), (1, 0), 0, FAR))
        for parts in (((0, 1), 0, 9), ((1,), 0, 9), ((), 0, 9), ((1, 0), 1, 9), ((1, 0), -1, 9), ((1, 0), 0, 0), ((1, 0), 0, -1), ((1, 1), 0, 9),
                      ([1, 0], 0, 9), ((1, 0, 0), 0, 9), ((True, 0), 0, 9), ((1, 0), False, 9), ((1, 0), 0, True), ((1, 2), 0, 9), ((1, -2), 0, 9)):
            self.right(TANK, 0, (4,), Surge((DAY, DAYS), *parts), False)
        items = days(6)
        self.right(TANK, 0, (4,), Surge(items, (5, 4, 3, 2), 0, 1))
        self.right(TANK, 0, (4,), Surge(items, (5, 4, 3, 2), 2, 2))
        self.right(TANK, 0, (4,), Surge(items, (5, 4, 3, 2), 3, 2), False)
        self.right(TANK, 0, (4,), Surge(items, (5, 3, 2), 0, 2), False)
        self.right(TANK, 0, (4,), Surge(items[:5] + (items[5][:4] + (9,) + items[5][5:],), (5, 4), 0, 2), False)

    def test_surges_of_no_pump(self):
        # A right nest, but no greater weight, and no greater one of two labels.
        same = Web(("level",), ("wet",), (("m", 0, 0, (("rise", 1, 1, 1), ("now", 1, 0, -5), ("rise", 1, 1, 0))),))
        one = (0, 1, 0, 1, -4, 0, (("rule", 0), ("rule", 1), GROUND))
        for step, right in ((0, True), (2, False)):
            two = (0, 1, 0, 2, -3 if right else -4, 0, (("rule", step), ("tour", 0), GROUND))
            self.assertIs(are_items(same, (one, two)), True)
            self.right(same, 0, (9,), Surge((one, two), (1, 0), 0, 1), right)
            self.right(same, 0, (9,), Heavy((one, two), 1))
        other = (0, 0, 0, 2, 6, 0, (("rule", 3), ("tour", 0), GROUND))
        web = Web(("level",), ("wet",), (("m", 0, 0, same.moves[0][3] + (("rise", 0, 1, 10),)),))
        self.assertIs(are_items(web, (one, other)), True)
        self.right(web, 0, (9,), Surge((one, other), (1, 0), 0, 1), False)
        self.right(web, 0, (9,), Heavy((one, other), 1))

    def test_surges_by_trial(self):
        draw = random.Random(1)
        tried, wrong = 0, 0
        for _ in range(120):
            web = rising_web(draw, 2, 2, 3, 3) if draw.random() < 0.5 else random_web(draw, 1, 2, 3, 4, -3, 2)
            items = random_items(draw, web, 9)
            for nest in nests(items)[:12]:
                self.assertIs(is_pump(web, Pump(items, nest[0], nest[-1])), True)
                for place in range(len(nest) - 1):
                    for rounds in (1, 2, 3, 5):
                        whole = written_out(items, nest, place, rounds)
                        self.assertIs(are_items(web, whole), True)
                        surge = Surge(items, nest, place, rounds)
                        self.assertEqual(attacks.most_moves(surge), whole[-1][3])
                        values = tuple([draw.randint(-4, 4) for _ in web.quantities])
                        state = draw.randrange(2)
                        expected = attacks.is_attack(web, state, values, Heavy(whole, len(whole) - 1))
                        self.right(web, state, values, surge, expected)
                        tried += expected
                        wrong += not expected
                        if expected and whole[-1][3] < 40:
                            self.assertIs(is_held_for(web, state, values, whole[-1][3]), False)
        self.assertTrue(tried > 100 and wrong > 100, (tried, wrong))

    def test_marches(self):
        for state, script, right in ((0, (0,), True), (3, (2, 0), True), (0, (), False), (1, (), False), (3, (2,), False), (0, (0, 1), False),
                                     (3, (0,), False), (1, (1,), False), (0, [0], False), (0, (0.0,), False), (0, (False,), False)):
            self.right(PARTS, state, (0,), March(script, RING), right)
        self.assertEqual(attacks.most_moves(March((2, 0), RING)), 2)
        self.right(PARTS, 0, (0,), March((0,), Ring((), 1, 0, 1, (("rule", 0), ("rule", 1)))), False)
        # A ring without a move.
        self.assertIs(is_ring_paper(ROUND, LONE), True)
        for state, script, right in ((1, (), True), (0, (0,), True), (0, (0, 1, 1), True), (1, (1,), True), (0, (), False), (0, (1,), False)):
            self.right(ROUND, state, (0,), March(script, LONE), right)
        self.assertEqual([attacks.most_moves(March(script, LONE)) for script in ((), (0,), (0, 1, 1))], [1, 2, 4])
        self.right(ROUND, 1, (0,), March((1,) * 100, LONE))
        self.right(ROUND, 1, (0,), March((1,) * 101, LONE), False)
        # A ring of a move and of deep items.
        told_move = Ring((TURN, (1, 1, 1, 2, 2, 1, (("rule", 0), ("tour", 0), ("rule", 1)))), 1, 0, 1, (("tour", 1), ("tour", 0)))
        self.assertIs(is_ring_paper(ROUND, told_move), True)
        self.right(ROUND, 0, (0,), March((0,), told_move))
        self.right(ROUND, 1, (0,), March((), told_move), False)
        self.right(ROUND, 1, (0,), March((1,), told_move), False)
        self.assertEqual(attacks.most_moves(March((0,), told_move)), 3)

    def test_marches_to_pumps(self):
        self.right(TANK, 0, (-10 ** 9,), March((), RAINS))
        self.right(TANK, 0, (-10 ** 9,), March((0, 0, 0), RAINS))
        self.assertIsNone(attacks.most_moves(March((), RAINS)))
        self.right(TANK, 0, (9,), March((), Pump(RAINS.excursions, 0, 1)), False)
        self.right(TANK, 0, (9,), March((), Pump(RAINS.excursions, 1, 1)), False)
        two = Web(("level",), ("dry", "wet"), (TANK.moves[0], ("rain", 1, 1, ()), ("m", 1, 0, ())))
        for state, script, right in ((1, (), False), (1, (1,), False), (1, (1, 2), True), (0, (0,), True), (1, (2, 0), True)):
            self.right(two, state, (0,), March(script, RAINS), right)

    def test_any_value(self):
        for value in [*ODD, RAINS, RING, ((DAY,), 0)]:
            self.right(TANK, 0, (9,), value, False)
            self.right(TANK, 0, (9,), Heavy(value, 0), False)
            self.right(TANK, 0, (9,), Heavy((DAY, DAYS), value), told(value) in ("0", "1"))
            self.right(TANK, 0, (9,), Surge(value, (1, 0), 0, 5), False)
            self.right(TANK, 0, (9,), Surge((DAY, DAYS), value, 0, 5), False)
            self.right(TANK, 0, (9,), Surge((DAY, DAYS), (1, 0), value, 5), told(value) == "0")
            self.right(TANK, 0, (9,), Surge((DAY, DAYS), (1, 0), 0, value), isinstance(value, int) and value is not True and value > 0)
            self.right(TANK, 0, (9,), March(value, RAINS), told(value) in ("()", "(0)", "(0, 0)"))
            self.right(TANK, 0, (9,), March((), value), value is RAINS)
            self.right(TANK, 0, (9,), March(value, value), False)
        for wrong in [*spoiled((DAY, DAYS), STRANGE + [None, 9]), *resized((DAY, DAYS))]:
            self.right(TANK, 0, (9,), Heavy(wrong, 1), False)
            self.right(TANK, 0, (9,), Surge(wrong, (1, 0), 0, 5), False)
        for wrong in spoiled((1, 0), STRANGE + [None, 9, ()]):
            self.right(TANK, 0, (9,), Surge((DAY, DAYS), wrong, 0, 5), False)

    def test_marches_by_trial(self):
        draw = random.Random(2)
        found = 0
        for _ in range(150):
            web = random_web(draw, 2, 3, 4, 4, -3, 2)
            items, _, rings = climb(web, 3, every_state(web))
            for state, move, begin, steps in rings.values():
                ring = Ring(tuple(items), state, move, begin, steps)
                depth = max([0] + [items[number][3] for word, number in steps if word == "tour"])
                for start in range(3):
                    scripts = [script for script in [(), *[(at,) for at in range(4)], *[(at, other) for at in range(4) for other in range(4)]]
                               if is_script(web, start, script)]
                    for script in scripts:
                        end = web.moves[script[-1]][2] if script else start
                        right = end == state if move is None else script[-1:] == (move,)
                        self.right(web, start, (0, 0), March(script, ring), right)
                        if right:
                            found += 1
                            self.assertEqual(attacks.most_moves(March(script, ring)), len(script) + depth)
                            self.assertIs(is_held_for(web, start, (0, 0), len(script) + depth), False)
        self.assertGreater(found, 100)

    def test_great(self):
        items = days(5000)
        self.right(TANK, 0, (-4000,), Heavy(items, 4999))
        self.assertEqual(attacks.most_moves(Heavy(items, 4999)), 5000)
        surge = Surge(items, tuple(range(4999, -1, -1)), 17, FAR)
        self.right(TANK, 0, (-10 ** 9,), surge)
        self.assertEqual(attacks.most_moves(surge), 5000 - 17 + (FAR - 1) * 4999)
        whole = pumped(RAINS, 1000)
        self.right(TANK, 0, (-10 ** 2,), Heavy(whole, len(whole) - 1))
        self.assertEqual(attacks.most_moves(Surge((DAY, DAYS), (1, 0), 0, 1000)), 1001)


if __name__ == "__main__":
    unittest.main()
