import random
import unittest

from heldalways import marks
from heldalways.attacks import Heavy, March, Surge, is_attack
from heldalways.court import holds_ever
from heldalways.pumps import Pump, Ring
from heldalways.webs import Web, without_moves
from helping import drifting_web, random_web
from test_attacks import LONE, PARTS, RING, TURN
from test_plays import some_attacks
from test_pumps import DAY, DAYS, RAINS, TANK, days


def nested(items, number):
    """The item and all nested in it."""
    found = {number}
    for word, inner in items[number][6]:
        if word == "tour":
            found |= nested(items, inner)
    return found


def used_by_the_words(attack):
    if isinstance(attack, Heavy):
        items, first, extra = attack.excursions, [attack.at], []
    elif isinstance(attack, Surge):
        items, first, extra = attack.excursions, [attack.nest[0]], []
    else:
        paper = attack.paper
        items, extra = paper.excursions, []
        if isinstance(paper, Pump):
            first = [paper.outer]
        else:
            first = [number for word, number in paper.steps if word == "tour"]
            extra = [(paper.move, number) for word, number in paper.steps if word == "rule"]
    used = set()
    for number in first:
        used |= nested(items, number)
    moves = {items[number][5] for number in used} | set(attack.script if isinstance(attack, March) else ())
    rules = {(items[at][5], number) for at in used for word, number in items[at][6] if word == "rule"} | set(extra)
    return tuple(sorted(moves)), tuple(sorted(rules))


class Point68(unittest.TestCase):
    def test_small(self):
        self.assertEqual(marks.used_moves(Heavy((DAY, DAYS), 1)), (0,))
        self.assertEqual(marks.used_rules(Heavy((DAY, DAYS), 1)), ((0, 1), (0, 2)))
        self.assertEqual((marks.used_moves(March((2, 0), RING)), marks.used_rules(March((2, 0), RING))), ((0, 2), ((0, 0), (0, 1))))
        self.assertEqual((marks.used_moves(March((0, 1), LONE)), marks.used_rules(March((0, 1), LONE))), ((0, 1), ((1, 0), (1, 1))))
        self.assertEqual((marks.used_moves(March((), RAINS)), marks.used_rules(March((), RAINS))), ((0,), ((0, 1), (0, 2))))
        # Not items that are not nested in the one named, and not rules of rings that are tours.
        items = days(5)
        self.assertEqual(marks.used_moves(Heavy(items + (TURN,), 0)), (0,))
        self.assertEqual(marks.used_rules(Heavy(((*DAY[:6], (("ground", 0), ("ground", 0))), DAYS), 0)), ())
        self.assertEqual(marks.used_moves(Surge(items, (4, 3, 2), 1, 9)), (0,))
        self.assertEqual(marks.used_rules(March((), Ring((TURN,), 1, None, 1, (("tour", 0),)))), ((1, 0), (1, 1)))

    def test_by_the_words(self):
        draw = random.Random(1)
        tried = {}
        for web, (state, values), attack in some_attacks(draw, 60):
            if is_attack(web, state, values, attack):
                moves, rules = used_by_the_words(attack)
                self.assertEqual(marks.used_moves(attack), moves)
                self.assertEqual(marks.used_rules(attack), rules)
                kind = type(attack).__name__
                tried[kind] = tried.get(kind, 0) + 1
                # Without what it does not use it is right still, so nothing is held for ever.
                idle = tuple([move for move in range(len(web.moves)) if move not in moves])
                self.assertIs(holds_ever(without_moves(web, idle), state, values), False)
                kept = [(*move[:3], tuple([rule for number, rule in enumerate(move[3]) if (at, number) in rules])) for at, move in enumerate(web.moves)]
                self.assertIs(holds_ever(Web(web.quantities, web.states, tuple(kept)), state, values), False)
        self.assertTrue(len(tried) == 3 and min(tried.values()) > 30, tried)

    def test_great(self):
        items = days(5000)
        self.assertEqual(marks.used_rules(Heavy(items, 4999)), ((0, 1), (0, 2)))
        doubled = [DAY]
        for at in range(400):
            doubled.append((0, 1, 0, at + 2, 0, 0, (("tour", at), ("tour", at))))
        self.assertEqual(marks.used_moves(Heavy(tuple(doubled), 400)), (0,))


if __name__ == "__main__":
    unittest.main()
