import random
import unittest

from heldalways import rooms
from heldalways.court import best_table
from heldalways.errors import Refused
from heldalways.tables import is_table
from heldalways.webs import Web
from helping import NAMES, STATES, drifting_web, great_web, random_web
from odd import ODD, STRANGE, resized, spoiled, told

BATCH = ("in", 0, 1, (("rise", 1, 1, 3), ("now", 0, 1, 0)))
TANK = Web(("level",), ("dry", "wet"), (BATCH, ("out", 1, 0, (("rise", 1, 1, -3), ("now", 0, 1, 0)))))
PAIR = Web(("x", "y"), ("a",), (("m", 0, 0, (("rise", 1, 1, 0),)),))


def random_rooms(draw, many, wanted, most):
    found = []
    while many and len(found) < wanted:
        one, other = draw.randint(0, many), draw.randint(0, many)
        if one != other:
            found.append((one, other, draw.randint(0, most)))
    return tuple(found)


class Point64(unittest.TestCase):
    def test_are_rooms(self):
        for value, right in (((), True), (((1, 0, 9),), True), (((1, 2, 0), (0, 2, 10 ** 6), (1, 2, 5)), True), (((1, 1, 9),), False),
                             (((3, 0, 9),), False), (((-1, 0, 9),), False), (((1, 0, -1),), False), (((1, 0, 10 ** 6 + 1),), False),
                             ([(1, 0, 9)], False), (([1, 0, 9],), False), (((1, 0),), False), (((1, 0, 9, 9),), False),
                             (((True, 0, 9),), False), (((1, False, 9),), False), (((1, 0, True),), False), (((1, 0, 9), None), False),
                             (((0, 1, 9),) * 200, True)):
            self.assertIs(rooms.are_rooms(PAIR, value), right, told(value))
        self.assertIs(rooms.are_rooms(Web((), ("a",), ()), ((0, 0, 1),)), False)
        for value in [*ODD, *spoiled(((1, 0, 9), (2, 1, 3)), STRANGE + [None, "a", -1]), *resized(((1, 0, 9),))]:
            self.assertIs(rooms.are_rooms(PAIR, value), value == () if isinstance(value, tuple) else False, told(value))

    def test_roomed_web(self):
        self.assertEqual(rooms.roomed_web(TANK, ((1, 0, 9),)).moves, (
            ("in", 0, 1, (("rise", 1, 1, 3), ("now", 0, 1, 0), ("now", 1, 0, -9))),
            ("out", 1, 0, (("rise", 1, 1, -3), ("now", 0, 1, 0), ("now", 1, 0, -9)))))
        self.assertEqual(rooms.roomed_web(PAIR, ((2, 1, 0), (1, 2, 10 ** 6))).moves[0][3][1:], (("now", 2, 1, 0), ("now", 1, 2, -10 ** 6)))
        self.assertEqual(rooms.roomed_web(PAIR, ()), PAIR)
        self.assertEqual(len(rooms.roomed_web(PAIR, ((1, 0, 9),) * 29).moves[0][3]), 30)
        for call, more in ((rooms.roomed_web, ()), (rooms.is_enough, (0,))):
            with self.assertRaises(Refused) as caught:
                call(PAIR, ((1, 0, 9),) * 30, *more)
            self.assertEqual(caught.exception.word, "size")
        bare = Web(("x",), ("a",), ())
        self.assertEqual(rooms.roomed_web(bare, ((1, 0, 9),) * 31), bare)

    def test_with_room(self):
        three = ((1, 0, 9), (2, 1, 3), (0, 2, 4))
        self.assertEqual(rooms.with_room(three, 1, 7), ((1, 0, 9), (2, 1, 7), (0, 2, 4)))
        self.assertEqual(rooms.with_room(three, 2, 0), ((1, 0, 9), (2, 1, 3), (0, 2, 0)))
        self.assertEqual(three[1], (2, 1, 3))

    def test_is_enough(self):
        self.assertEqual([rooms.is_enough(TANK, ((1, 0, room),), 0) for room in (0, 2, 3, 4, 10 ** 6)], [False, False, True, True, True])
        rain = Web(("level",), ("wet",), (("rain", 0, 0, (("rise", 1, 1, 1),)),))
        self.assertIs(rooms.is_enough(rain, ((1, 0, 10 ** 6),), 0), False)
        self.assertIs(rooms.is_enough(rain, (), 0), True)
        draw = random.Random(1)
        found = []
        for _ in range(150):
            web = random_web(draw, draw.choice((1, 2)), 2, 3, 3, -3, 2)
            some = random_rooms(draw, len(web.quantities), 2, 4)
            more = tuple([(one, other, room + draw.randrange(3)) for one, other, room in some])
            table, wider = best_table(rooms.roomed_web(web, some)), best_table(rooms.roomed_web(web, more))
            for state in range(2):
                self.assertIs(rooms.is_enough(web, some, state), table[state] is not None)
                found.append(table[state] is not None)
                # With more room no less is held, and a right table stays right.
                self.assertTrue(table[state] is None or wider[state] is not None)
            self.assertIs(is_table(rooms.roomed_web(web, more), table), True)
        self.assertTrue(30 < sum(found) < len(found) - 30, sum(found))

    def test_great(self):
        draw = random.Random(2)
        for web in (drifting_web(), great_web(draw, -10 ** 6, -900000), great_web(draw, -5, 0)):
            few = Web(web.quantities, web.states, tuple([(*move[:3], move[3][:20]) for move in web.moves]))
            some = random_rooms(draw, 6, 10, 10 ** 6)
            self.assertEqual(rooms.is_enough(few, some, 3), best_table(rooms.roomed_web(few, some))[3] is not None)
            self.assertIs(rooms.are_rooms(Web(NAMES, STATES, ()), some), True)


if __name__ == "__main__":
    unittest.main()
