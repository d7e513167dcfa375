import random
import unittest

from heldalways import leastroom
from heldalways.court import best_table, holds_ever, is_verdict_at, verdict_at
from heldalways.errors import InvalidValues, Refused
from heldalways.leastroom import RoomPaper
from heldalways.roompapers import beaten_to
from heldalways.rooms import is_enough, roomed_web, with_room
from heldalways.webs import Web
from helping import NAMES, STATES, drifting_web, great_web, random_web
from odd import ODD, STRANGE, told
from test_rooms import BATCH, PAIR, TANK, random_rooms
from test_settle import rising_web

RAIN = Web(("level",), ("wet",), (("rain", 0, 0, (("rise", 1, 1, 1),)),))


def batch_web(draw):
    """A web into which batches come, and go out of it."""
    moves = []
    for start, end in ((0, 1), (1, 0), (draw.randrange(2), draw.randrange(2))):
        row = [("now", 0, 1, 0), ("rise", 1, 1, draw.randint(1, 4) if start == 0 else draw.randint(-5, 0))]
        row += [draw.choice((("rise", 1, 2, -1), ("rise", 2, 2, 1), ("now", 2, 1, draw.randint(-2, 0)), ("now", 1, 2, draw.randint(-2, 1)),
                             ("rise", 2, 1, -3), ("now", 0, 2, 1))) for _ in range(draw.randrange(3))]
        moves.append(("m", start, end, tuple(row)))
    return Web(("x", "y"), ("a", "b"), tuple(moves[:draw.choice((2, 2, 3))]))


def cases(draw, wanted):
    for at in range(wanted):
        web = batch_web(draw) if at % 2 else rising_web(draw, 2, 2, 2, 2) if draw.random() < 0.3 else random_web(draw, draw.choice((1, 2)), 2, 3, 3, -3, 3)
        some = random_rooms(draw, len(web.quantities), draw.randint(1, 3), 9)
        if at % 2:
            some = ((1, 0, draw.randint(0, 9)), *some[1:])
        yield web, some, draw.choice((0, draw.randrange(len(some)))), draw.randrange(2)


def first_that(many, fits):
    """The least number below so many that fits, for what fits from some number on."""
    found = [number for number in range(many) if fits(number)]
    return found[0] if found else None


class Point66(unittest.TestCase):
    def test_examples(self):
        self.assertEqual((leastroom.least_room(TANK, ((1, 0, 9),), 0, 0), leastroom.least_room_for(TANK, ((1, 0, 9),), 0, 0, (2,))), (3, 5))
        self.assertEqual(beaten_to(TANK, ((1, 0, 2),), 0, leastroom.room_paper(TANK, ((1, 0, 9),), 0, 0).paper), 2)
        self.assertIs(leastroom.least_room(RAIN, ((1, 0, 9),), 0, 0), None)

    def test_class(self):
        for value in ODD:
            made = RoomPaper(value, value, value)
            self.assertTrue(made.room is value and made.table is value and made.paper is value)
        made = RoomPaper(room=1, table=2, paper=3)
        self.assertEqual((made.room, made.table, made.paper), (1, 2, 3))

    def test_by_trial(self):
        draw = random.Random(1)
        found = []
        for web, some, place, state in cases(draw, 200):
            least = first_that(60, lambda room: is_enough(web, with_room(some, place, room), state))
            found.append(least)
            self.assertEqual(leastroom.least_room(web, some, place, state), least)
            # The number that is there does not matter.
            self.assertEqual(leastroom.least_room(web, with_room(some, place, 0), place, state), least)
            paper = leastroom.room_paper(web, some, place, state)
            self.assertEqual(paper.room, least)
            self.assertIs(leastroom.is_room_paper(web, some, place, state, paper), True)
            if least is None:
                self.assertIsNone(paper.table)
                self.assertIs(is_verdict_at(roomed_web(web, with_room(some, place, 10 ** 6)), state, paper.paper), True)
            self.spoil(web, some, place, state, paper)
        self.assertTrue(found.count(None) > 20 and found.count(0) > 20 and len([room for room in found if room]) > 20, found)

    def spoil(self, web, some, place, state, paper):
        def right(*parts):
            return leastroom.is_room_paper(web, some, place, state, RoomPaper(*parts))
        room, table, shown = paper.room, paper.table, paper.paper
        for other in (None, 0, 1, 2, 5, 10 ** 6, 10 ** 6 + 1, -1, True):
            if told(other) != told(room):
                expected = False
                if room is not None and told(other) == "0":
                    expected = shown is None
                self.assertIs(right(other, table, shown), expected, (told(other), room))
        for wrong in ((room, (None, None), shown), (room, None, None), (room, table, 0), (room, table, table), (room, shown, table)):
            if (wrong[1] is not table or wrong[2] is not shown):
                self.assertIs(right(*wrong), False)
        self.assertIs(right(room, table, None), room == 0)

    def test_papers_of_others(self):
        some = ((1, 0, 9),)
        paper = leastroom.room_paper(TANK, some, 0, 0)
        self.assertEqual(paper.room, 3)
        wide = verdict_at(roomed_web(TANK, ((1, 0, 5),)), 0).table
        self.assertIs(leastroom.is_room_paper(TANK, some, 0, 0, RoomPaper(3, best_table(roomed_web(TANK, ((1, 0, 3),))), paper.paper)), True)
        self.assertIs(leastroom.is_room_paper(TANK, some, 0, 0, RoomPaper(3, wide, paper.paper)), False)
        self.assertIs(leastroom.is_room_paper(TANK, some, 0, 0, RoomPaper(5, wide, paper.paper)), False)
        # A place that is not reached shows nothing.
        apart = Web(("level",), ("a", "b", "c"), (BATCH, ("out", 1, 0, TANK.moves[1][3]), ("m", 2, 2, (("now", 0, 0, 1),))))
        broken = verdict_at(roomed_web(apart, ((1, 0, 2),)), 2)
        good = leastroom.room_paper(apart, some, 0, 0)
        self.assertIs(leastroom.is_room_paper(apart, some, 0, 0, good), True)
        self.assertIs(leastroom.is_room_paper(apart, some, 0, 0, RoomPaper(3, good.table, broken)), False)
        self.assertIs(leastroom.is_room_paper(apart, some, 0, 2, RoomPaper(None, None, verdict_at(roomed_web(apart, ((1, 0, 10 ** 6),)), 2))), True)

    def test_any_value(self):
        right = leastroom.room_paper(TANK, ((1, 0, 9),), 0, 0)
        parts = [right.room, right.table, right.paper]
        for value in [*ODD, *STRANGE, right.paper, tuple(parts)]:
            self.assertIs(leastroom.is_room_paper(TANK, ((1, 0, 9),), 0, 0, value), False)
            for at in range(3):
                made = RoomPaper(*[value if place == at else part for place, part in enumerate(parts)])
                self.assertIs(leastroom.is_room_paper(TANK, ((1, 0, 9),), 0, 0, made), at == 2 and value is right.paper)

    def test_size(self):
        many = ((1, 0, 9),) * 30
        for call, more in ((leastroom.least_room, (0, 0)), (leastroom.room_paper, (0, 0)), (leastroom.is_room_paper, (0, 0, None)),
                           (leastroom.least_room_for, (0, 0, None)), (leastroom.lean_rooms, (0,))):
            with self.assertRaises(Refused) as caught:
                call(PAIR, many, *more)
            self.assertEqual(caught.exception.word, "size")


class Point67(unittest.TestCase):
    def test_for_values(self):
        draw = random.Random(2)
        found = []
        for web, some, place, state in cases(draw, 200):
            values = tuple([draw.randint(-4, 4) for _ in web.quantities])
            least = first_that(40, lambda room: holds_ever(roomed_web(web, with_room(some, place, room)), state, values))
            found.append(least)
            self.assertEqual(leastroom.least_room_for(web, some, place, state, values), least)
        self.assertTrue(found.count(None) > 20 and found.count(0) > 20 and len([room for room in found if room]) > 20, found)

    def test_values(self):
        for value, at in ((None, -1), ([3], -1), ((3, 3), -1), ((10 ** 9 + 1,), 0), ((True,), 0)):
            for web in (TANK, RAIN):
                with self.assertRaises(InvalidValues) as caught:
                    leastroom.least_room_for(web, ((1, 0, 9),), 0, 0, value)
                self.assertEqual(caught.exception.at, at)
        for value in ODD:
            if told(value) != "(0)":
                with self.assertRaises(InvalidValues, msg=told(value)):
                    leastroom.least_room_for(TANK, ((1, 0, 9),), 0, 0, value)

    def test_lean_rooms(self):
        self.assertEqual(leastroom.lean_rooms(TANK, ((1, 0, 9), (1, 0, 7)), 0), ((1, 0, 3), (1, 0, 3)))
        self.assertEqual(leastroom.lean_rooms(TANK, (), 0), ())
        with self.assertRaises(Refused) as caught:
            leastroom.lean_rooms(TANK, ((1, 0, 2),), 0)
        self.assertEqual(caught.exception.word, "room")
        draw = random.Random(3)
        lean, refused = 0, 0
        for web, some, _, state in cases(draw, 200):
            if not is_enough(web, some, state):
                refused += 1
                with self.assertRaises(Refused) as caught:
                    leastroom.lean_rooms(web, some, state)
                self.assertEqual(caught.exception.word, "room")
                continue
            found = leastroom.lean_rooms(web, some, state)
            self.assertEqual([(one, other) for one, other, _ in found], [(one, other) for one, other, _ in some])
            self.assertTrue(all([less[2] <= more[2] for less, more in zip(found, some)]))
            self.assertIs(is_enough(web, found, state), True)
            for place, (_, _, room) in enumerate(found):
                for smaller in range(room):
                    self.assertIs(is_enough(web, with_room(found, place, smaller), state), False)
                lean += room > 0
        self.assertTrue(lean > 20 and refused > 20, (lean, refused))

    def test_great(self):
        draw = random.Random(4)
        for web in (drifting_web(), great_web(draw, -10 ** 6, 10 ** 6), great_web(draw, -10 ** 6, -900000), great_web(draw, -3, 0)):
            few = Web(web.quantities, web.states, tuple([(*move[:3], move[3][:20]) for move in web.moves]))
            some = random_rooms(draw, 6, 10, 10 ** 6)
            paper = leastroom.room_paper(few, some, 3, 5)
            self.assertIs(leastroom.is_room_paper(few, some, 3, 5, paper), True)
            leastroom.least_room_for(few, some, 3, 5, (10 ** 9,) * 6)
            if is_enough(few, some, 5):
                found = leastroom.lean_rooms(few, some, 5)
                for place, (_, _, room) in enumerate(found):
                    self.assertIs(room > 0 and is_enough(few, with_room(found, place, room - 1), 5), False)
        # Great rooms that are needed: batches that go in and out.
        batches = []
        for at in range(6):
            size = draw.randint(10 ** 5, 16 * 10 ** 4)
            batches.append(("in", at, at + 1, (("rise", 1, 1, size), ("rise", 2, 2, size // 3), ("now", 0, 1, 0), ("now", 0, 2, 0))))
        batches.append(("out", 6, 0, (("rise", 1, 1, -10 ** 6), ("rise", 2, 2, -10 ** 6), ("now", 0, 1, 0), ("now", 0, 2, 0))))
        web = Web(NAMES, STATES, tuple(batches))
        total = sum([move[3][0][3] for move in batches[:6]])
        self.assertEqual(leastroom.least_room(web, ((1, 0, 0), (2, 0, 10 ** 6)), 0, 0), total)
        found = leastroom.lean_rooms(web, ((1, 0, 10 ** 6), (2, 0, 10 ** 6)), 0)
        self.assertEqual(found, ((1, 0, total), (2, 0, sum([move[3][1][3] for move in batches[:6]]))))
        self.assertIs(leastroom.is_room_paper(web, found, 0, 0, leastroom.room_paper(web, found, 0, 0)), True)


if __name__ == "__main__":
    unittest.main()
