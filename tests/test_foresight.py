import random
import unittest
from itertools import product

from heldalways import foresight
from heldalways.errors import Refused
from heldalways.games import can_follow, can_hold
from heldalways.sight import scripts_ahead, sight_web
from heldalways.steps import end_state
from heldalways.tours import is_held_for
from heldalways.webs import Web
from helping import NAMES, STATES, keeps, random_rule, random_web, window

NEAR, SAME = (("rise", 1, 1, -2), ("fall", 1, 1, -2)), (("rise", 1, 1, 0), ("fall", 1, 1, 0))
UP, DOWN = ("up", 1, 0, SAME + (("now", 0, 1, 3),)), ("down", 1, 0, SAME + (("now", 1, 0, -1),))
READY = Web(("x",), ("idle", "sign"), (("wait", 0, 1, NEAR), UP, DOWN))


def known_longer(web, state, script, most):
    """What may be known when one more move is told, if moves behind `most` do not come."""
    going = [at for at, move in enumerate(web.moves) if move[1] == end_state(web, state, script)]
    if len(script) == most or not going:
        return [script]
    return [(*script, at) for at in going]


def seen_by_trial(web, state, script, values, most, sight, kept):
    """Whether values are held by one who knows a script of so many moves ahead, by trial of whole values."""
    key = (state, script, values, most)
    if key not in kept:
        held = True
        for known in known_longer(web, state, script, most):
            if known and held:
                end, rules = web.moves[known[0]][2:]
                held = any([seen_by_trial(web, end, known[1:], new, most - 1, sight, kept)
                            for new in product(window(web, values, most), repeat=len(values)) if keeps(rules, values, new)])
        kept[key] = held
    return kept[key]


class Point62(unittest.TestCase):
    def refused(self, *told):
        with self.assertRaises(Refused) as caught:
            foresight.can_hold_seeing(*told)
        self.assertEqual(caught.exception.word, "size")

    def test_example(self):
        self.assertIs(foresight.can_hold_seeing(READY, 0, (3,), 2, 0), False)
        self.assertIs(foresight.can_hold_seeing(READY, 0, (3,), 4, 1), True)

    def test_known_at_the_beginning(self):
        # With a sight of 1 the next move is known at the beginning, but nothing can be said before it comes.
        self.assertEqual([foresight.can_hold_seeing(READY, 1, (x,), 1, 1) for x in (0, 1, 2, 3)], [False] * 4)
        self.assertEqual([foresight.can_hold_seeing(READY, 0, (x,), 2, 1) for x in (0, 1, 2, 3, 4)], [False, True, True, True, False])
        self.assertEqual([foresight.can_hold_seeing(READY, 0, (x,), 1, 0) for x in (0, 9)], [True, True])
        self.assertIs(foresight.can_hold_seeing(READY, 1, (9,), 0, 3), True)

    def test_by_trial(self):
        draw = random.Random(1)
        lost = 0
        for _ in range(160):
            many = draw.choice((0, 1, 1, 2))
            low, high = {0: (-1, 1), 1: (-3, 2), 2: (-2, 1)}[many]
            web = random_web(draw, many, 2, 4, 4, low, high)
            values = tuple([draw.randint(-2, 2) if many == 1 else draw.randint(-1, 1) for _ in range(many)])
            for most in range(4 if many < 2 else 3):
                before = None
                for sight in range(4):
                    kept = {}
                    for state in (0, 1):
                        held = all([seen_by_trial(web, state, script, values, most, sight, kept)
                                    for script in scripts_ahead(web, state, min(sight, most))])
                        self.assertIs(foresight.can_hold_seeing(web, state, values, most, sight), held)
                        lost += not held
                    before = self.check_more(web, values, most, sight, before)
        self.assertTrue(lost > 100, lost)

    def check_more(self, web, values, most, sight, before):
        """More sight holds no less; sight 0 is that of games; what is enough for all."""
        found = [foresight.can_hold_seeing(web, state, values, most, sight) for state in (0, 1)]
        if sight == 0:
            self.assertEqual(found, [can_hold(web, state, values, most) for state in (0, 1)])
        else:
            self.assertTrue(all([new or not old for old, new in zip(before, found)]))
        if sight >= most - 1:
            follows = [all([can_follow(web, values, script) for script in scripts_ahead(web, state, most)]) for state in (0, 1)]
            self.assertEqual(found, follows)
        return found

    def test_in_the_web_of_pairs(self):
        draw = random.Random(3)
        found = []
        for _ in range(400):
            web = random_web(draw, 1, 2, draw.choice((2, 3)), 4, -3, 2)
            sight = draw.randrange(4)
            try:
                made, pairs, _ = sight_web(web, sight)
            except Refused:
                continue
            values = (draw.randint(-3, 3),)
            for state, most in product((0, 1), range(5)):
                held = all([is_held_for(made, at, values, most) for at, pair in enumerate(pairs) if pair[0] == state])
                found.append(held)
                self.assertIs(foresight.can_hold_seeing(web, state, values, most, sight), held)
        self.assertTrue(300 < sum(found) < len(found) - 300, (sum(found), len(found)))

    def test_refused(self):
        two = Web(("x",), ("a", "b"), (("m", 0, 0, (("rise", 1, 1, 1),)),) * 15)
        self.refused(two, 0, (0,), 5, 0)
        self.refused(two, 0, (997,), 2, 0)
        self.refused(Web(NAMES[:4], ("a",), ()), 0, (0,) * 4, 0, 0)
        self.refused(two, 0, (0,), 2, 2)
        self.refused(two, 0, (0,), 2, 7)
        self.refused(two, 0, (0,), 4, 2)
        # 15 scripts are not too many, whatever the sight is; nor are others at other states.
        self.assertIs(foresight.can_hold_seeing(two, 0, (0,), 1, 7), True)
        self.assertIs(foresight.can_hold_seeing(two, 0, (0,), 4, 1), True)
        self.assertIs(foresight.can_hold_seeing(two, 1, (0,), 4, 7), True)

    def test_great(self):
        draw = random.Random(2)
        rows = [tuple([random_rule(draw, 3, -9, 0) for _ in range(30)]) for _ in range(40)]
        hub = Web(NAMES[:3], STATES, (("x", 0, 1, rows[39]),) + tuple([("m", 1, 1, row) for row in rows[:39]]))
        for sight in (0, 1, 2):
            self.assertIn(foresight.can_hold_seeing(hub, 0, (3, 3, 3), 4, sight), (True, False))
        self.refused(hub, 0, (3, 3, 3), 4, 3)
        self.refused(hub, 1, (3, 3, 3), 4, 7)
        ring = Web(NAMES[:3], STATES, tuple([("m", at, (at + 1) % 8, rows[at]) for at in range(8)]))
        self.assertIn(foresight.can_hold_seeing(ring, 0, (3, 3, 3), 4, 7), (True, False))


if __name__ == "__main__":
    unittest.main()
