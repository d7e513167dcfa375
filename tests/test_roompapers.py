import random
import unittest

from heldalways import roompapers
from heldalways.court import court
from heldalways.errors import Refused
from heldalways.excursions import are_items, walk_told
from heldalways.pumps import Pump, Ring, is_pump, is_ring_paper, pump_gain
from heldalways.rooms import roomed_web, with_room
from heldalways.webs import Web
from helping import random_items, random_web
from test_rooms import TANK, random_rooms
from test_settle import rising_web


def papers_for(draw, wanted):
    """Webs, rooms, and right rings and pumps for the webs with these rooms."""
    found = 0
    while found < wanted:
        web = draw.choice((random_web(draw, draw.choice((1, 2)), 2, 3, 3, -3, 2), rising_web(draw, 2, 2, 3, 3)))
        some = random_rooms(draw, len(web.quantities), draw.randint(1, 3), 4)
        roomed = roomed_web(web, some)
        papers = [court(roomed)]
        items = random_items(draw, roomed, 8)
        papers += [Pump(items, outer, inner) for outer in range(len(items)) for inner in range(outer)]
        for _ in range(10):
            state = draw.randrange(2)
            behind = [at for at, move in enumerate(roomed.moves) if move[2] == state]
            move = draw.choice([None, *behind])
            steps = [("tour", at) for at, item in enumerate(items) if item[0] == state]
            if move is not None:
                steps += [("rule", at) for at, rule in enumerate(roomed.moves[move][3]) if rule[0] == "now"] * 2
            for begin in range(len(web.quantities) + 1):
                papers.append(Ring(items, state, move, begin, tuple([draw.choice(steps) for _ in range(draw.randint(1, 3))] if steps else [])))
        for paper in papers:
            if is_ring_paper(roomed, paper) or is_pump(roomed, paper):
                found += 1
                yield web, some, paper


def counted(web, place, items, steps, move):
    """How often steps have the rule of a room, written out."""
    count = 0
    for word, number in steps:
        if word == "tour":
            count += counted(web, place, items, items[number][6], items[number][5])
        elif word == "rule" and number == len(web.moves[move][3]) + place:
            count += 1
    return count


def reweighed(roomed, items):
    """The items with the weights that they have in a web."""
    found = []
    for item in items:
        first = ([0] + [rule[3] for rule in roomed.moves[item[5]][3]])
        weight = sum([found[number][4] if word == "tour" else first[number + 1] if word == "rule" else 0 for word, number in item[6]])
        found.append((*item[:4], weight, *item[5:]))
    return tuple(found)


class Point65(unittest.TestCase):
    def test_tank(self):
        paper = court(roomed_web(TANK, ((1, 0, 2),)))
        for at in (0, 1, 2):
            self.assertEqual(roompapers.paper_gain(TANK, ((1, 0, 2),), paper) > 0, True)
        self.assertEqual(roompapers.beaten_to(TANK, ((1, 0, 2),), 0, paper), 2)
        with self.assertRaises(Refused) as caught:
            roompapers.paper_at(TANK, ((1, 0, 2),), 0, paper, 3)
        self.assertEqual(caught.exception.word, "room")

    def test_counts(self):
        # Three rounds of two rules each, and a ring that names them twice.
        web = Web(("x",), ("a",), (("m", 0, 0, (("rise", 1, 1, 5),)),))
        some = ((1, 0, 3), (1, 0, 8))
        one = (0, 1, 0, 1, 2, 0, (("rule", 0), ("rule", 1), ("ground", 0)))
        two = (0, 1, 0, 2, 7, 0, (("rule", 0), ("tour", 0), ("ground", 0)))
        pump = Pump((one, two), 1, 0)
        roomed = roomed_web(web, some)
        self.assertIs(is_pump(roomed, pump), True)
        self.assertEqual((roompapers.paper_gain(web, some, pump), roompapers.room_count(web, 0, pump), roompapers.room_count(web, 1, pump)), (5, 0, 0))
        self.assertEqual([roompapers.beaten_to(web, some, place, pump) for place in (0, 1)], [10 ** 6] * 2)
        wide = roompapers.paper_at(web, some, 0, pump, 10)
        self.assertEqual([item[4] for item in wide.excursions], [-5, 0])
        self.assertIs(is_pump(roomed_web(web, with_room(some, 0, 10)), wide), True)

    def test_rings_with_a_bound(self):
        web = Web(("x",), ("a",), (("m", 0, 0, (("now", 0, 1, 9),)),))
        for room in range(9):
            some = ((1, 0, room),)
            ring = Ring((), 0, 0, 0, (("rule", 0), ("rule", 1)))
            self.assertEqual((roompapers.paper_gain(web, some, ring), roompapers.room_count(web, 0, ring)), (9 - room, 1))
            self.assertEqual(roompapers.beaten_to(web, some, 0, ring), 8)
            twice = Ring((), 0, 0, 0, (("rule", 0), ("rule", 1)) * 2)
            self.assertEqual((roompapers.paper_gain(web, some, twice), roompapers.room_count(web, 0, twice)), (18 - 2 * room, 2))
            self.assertEqual(roompapers.beaten_to(web, some, 0, twice), 8)
        high = Web(("x",), ("a",), (("m", 0, 0, (("now", 0, 1, 10 ** 6), ("now", 0, 1, 5))),))
        ring = Ring((), 0, 0, 0, (("rule", 0), ("rule", 2), ("rule", 1), ("rule", 2)))
        self.assertEqual(roompapers.beaten_to(high, ((1, 0, 9),), 0, ring), 9 + (10 ** 6 + 5 - 18 - 1) // 2)
        # No more than 10^6, however much would be beaten.
        ring = Ring((), 0, 0, 0, (("rule", 0), ("rule", 0)))
        twin = Web(("x",), ("a",), (("m", 0, 0, (("now", 0, 0, 10 ** 6),)),))
        self.assertEqual(roompapers.beaten_to(twin, ((1, 0, 9),), 0, ring), 10 ** 6)
        both = Web(("x", "y"), ("a",), (("m", 0, 0, (("now", 0, 1, 10 ** 6), ("now", 2, 0, 0), ("now", 1, 2, 10 ** 6))),))
        some = ((1, 0, 9), (2, 1, 10 ** 6))
        ring = Ring((), 0, 0, 0, (("rule", 0), ("rule", 3), ("rule", 0), ("rule", 2), ("rule", 1)))
        self.assertIs(is_ring_paper(roomed_web(both, some), ring), True)
        self.assertEqual(roompapers.beaten_to(both, some, 0, ring), 10 ** 6)

    def test_by_the_words(self):
        draw = random.Random(1)
        counts = [0, 0, 0, 0]
        for web, some, paper in papers_for(draw, 600):
            roomed = roomed_web(web, some)
            items = paper.excursions
            pump = isinstance(paper, Pump)
            if pump:
                gain = pump_gain(paper)
            else:
                gain = walk_told(roomed, items, paper.state, paper.move, paper.begin, paper.steps)[1]
            self.assertEqual(roompapers.paper_gain(web, some, paper), gain)
            for place in range(len(some)):
                if pump:
                    count = counted(web, place, items, items[paper.outer][6], items[paper.outer][5]) - counted(
                        web, place, items, items[paper.inner][6], items[paper.inner][5])
                else:
                    count = counted(web, place, items, paper.steps, paper.move)
                self.assertEqual(roompapers.room_count(web, place, paper), count)
                beaten = roompapers.beaten_to(web, some, place, paper)
                self.assertEqual(beaten == 10 ** 6, count == 0)
                counts[count > 0] += 1
                counts[2 + pump] += count > 0
                for room in (0, 1, some[place][2], min(beaten, 7), beaten, beaten + 1, 10 ** 6):
                    other = roomed_web(web, with_room(some, place, min(room, 10 ** 6)))
                    if room > beaten:
                        with self.assertRaises(Refused) as caught:
                            roompapers.paper_at(web, some, place, paper, room)
                        self.assertEqual(caught.exception.word, "room")
                        weighed = reweighed(other, items)
                        parts = (paper.outer, paper.inner) if pump else (paper.state, paper.move, paper.begin, paper.steps)
                        wrong = (Pump if pump else Ring)(weighed, *parts)
                        self.assertTrue(are_items(other, weighed))
                        self.assertFalse(room <= 10 ** 6 and (is_pump(other, wrong) or is_ring_paper(other, wrong)))
                        continue
                    moved = roompapers.paper_at(web, some, place, paper, room)
                    self.assertEqual(moved.excursions, reweighed(other, items))
                    self.assertIs(is_pump(other, moved) if pump else is_ring_paper(other, moved), True)
        self.assertTrue(min(counts) > 10, counts)

    def test_great(self):
        # The count doubles with each item: far beyond all rooms.
        web = Web(("x",), ("a",), (("m", 0, 0, (("rise", 1, 1, 10 ** 6), ("fall", 1, 1, 0), ("now", 0, 1, 10))),))
        some = ((1, 0, 5),)
        items = [(0, 1, 1, 1, 10 ** 6 + 5, 0, (("rule", 0), ("rule", 3), ("rule", 2), ("rule", 1)))]
        for at in range(300):
            weight = 10 ** 6 + 2 * items[-1][4]
            items.append((0, 1, 1, at + 2, weight, 0, (("rule", 0), ("tour", at), ("tour", at), ("rule", 1))))
        roomed = roomed_web(web, some)
        self.assertIs(are_items(roomed, tuple(items)), True)
        pump = Pump(tuple(items), 300, 0)
        self.assertIs(is_pump(roomed, pump), True)
        self.assertEqual(roompapers.room_count(web, 0, pump), 2 ** 300 - 1)
        # Each round weighs twice 10^6 and some more, less the rooms.
        self.assertEqual(roompapers.beaten_to(web, some, 0, pump), 10 ** 6)
        ring = Ring(tuple(items), 0, None, 1, (("tour", 300),))
        self.assertEqual(roompapers.room_count(web, 0, ring), 2 ** 300)
        self.assertIs(is_ring_paper(roomed_web(web, with_room(some, 0, 10 ** 6)), roompapers.paper_at(web, some, 0, ring, 10 ** 6)), True)


if __name__ == "__main__":
    unittest.main()
