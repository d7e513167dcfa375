import random
import unittest
from itertools import product

from heldalways import plays
from heldalways.attacks import Heavy, March, Surge, is_attack, most_moves
from heldalways.court import holds_ever
from heldalways.errors import Refused
from heldalways.judgment import judgment
from heldalways.levelled import pumped
from heldalways.pumps import Pump, Ring, is_pump
from heldalways.steps import first_break, is_let, is_run, run_by
from heldalways.tourpapers import heaviest_tour
from heldalways.tours import is_held_for, layers
from heldalways.webs import Web, reached
from helping import NAMES, STATES, drifting_web, great_web, random_items, random_web
from test_attacks import LONE, PARTS, RING, ROUND, TURN, nests
from test_pumps import DAY, DAYS, RAINS, TANK, days
from test_settle import rising_web, some_webs

# As the tank, but values may be below 0: a surge goes on for long.
SLOPE = Web(("level",), ("wet",), (("rain", 0, 0, (("now", 0, 0, 0), *TANK.moves[0][3][1:])),))


def some_attacks(draw, wanted):
    """Webs, positions and right attacks of each kind."""
    for web in some_webs(draw, wanted):
        made = judgment(web)
        values = tuple([draw.randint(-4, 4) for _ in web.quantities])
        for state, paper in enumerate(made.papers):
            if paper is not None:
                more = (paper.move,) if isinstance(paper, Ring) and paper.move is not None else ()
                yield web, (state, values), March((*made.ways[state], *more), paper)
        items = random_items(draw, web, 9)
        for nest in nests(items)[:4]:
            for rounds in (1, 2, 5, 9):
                yield web, (items[nest[0]][0], values), Surge(items, nest, 0, rounds)
        for at, item in enumerate(items):
            yield web, (item[0], values), Heavy(items, at)


def answers_to(web, move, values, span):
    """Values that keep the rules of a move."""
    return [new for new in product(span, repeat=len(values)) if is_let(web, move, values, new)]


class Point48(unittest.TestCase):
    def test_heavy(self):
        self.assertEqual(plays.attack_move(TANK, 0, (4,), Heavy((DAY, DAYS), 1)), 0)
        behind = plays.attack_behind(TANK, 0, (4,), Heavy((DAY, DAYS), 1), (5,))
        self.assertEqual((type(behind), behind.excursions, behind.at), (Heavy, (DAY, DAYS), 0))
        with self.assertRaises(Refused) as caught:
            plays.attack_behind(TANK, 0, (4,), Heavy((DAY, DAYS), 1), (6,))
        self.assertEqual(caught.exception.word, "broken")
        with self.assertRaises(Refused):
            plays.attack_behind(TANK, 0, (5,), Heavy((DAY, DAYS), 0), (5,))

    def test_surge(self):
        items = days(6)
        surge = Surge(items, (5, 4, 3, 2), 0, 2)
        levels, level, seen = [], 3, [surge]
        while True:
            try:
                seen.append(plays.attack_behind(TANK, 0, (level,), seen[-1], (level + 1,)))
            except Refused:
                break
            level += 1
            levels.append(level)
        self.assertEqual(levels, [4, 5])
        # Played from far below, to its end.
        surge, level, falls = Surge(items, (5, 4, 3, 2), 1, 9), -9, []
        while level < 5:
            falls.append(most_moves(surge) if isinstance(surge, Surge) else surge.excursions[surge.at][3])
            self.assertIs(is_attack(SLOPE, 0, (level,), surge), True)
            surge = plays.attack_behind(SLOPE, 0, (level,), surge, (level + 1,))
            level += 1
        self.assertEqual(falls, sorted(set(falls), reverse=True))

    def test_marches(self):
        self.assertEqual([plays.attack_move(PARTS, 3, (0,), March((2, 0), RING)), plays.attack_move(PARTS, 0, (0,), March((0,), RING))], [2, 0])
        behind = plays.attack_behind(PARTS, 3, (0,), March((2, 0), RING), (7,))
        self.assertEqual((type(behind), behind.script, behind.paper), (March, (0,), RING))
        # No values keep the rules of a ring of a single move.
        for level in range(-9, 10):
            with self.assertRaises(Refused):
                plays.attack_behind(PARTS, 0, (0,), March((0,), RING), (level,))
        behind = plays.attack_behind(ROUND, 0, (0,), March((0,), LONE), (3,))
        self.assertEqual((type(behind), behind.script, behind.paper), (March, (), LONE))
        self.assertEqual(plays.attack_move(ROUND, 1, (3,), behind), 1)
        with self.assertRaises(Refused):
            plays.attack_behind(ROUND, 1, (3,), behind, (3,))
        told_move = Ring((TURN, (1, 1, 1, 2, 2, 1, (("rule", 0), ("tour", 0), ("rule", 1)))), 1, 0, 1, (("tour", 1), ("tour", 0)))
        behind = plays.attack_behind(ROUND, 0, (0,), March((0,), told_move), (3,))
        self.assertEqual((type(behind), is_attack(ROUND, 1, (3,), behind)), (Heavy, True))

    def test_pumps(self):
        behind = plays.attack_behind(SLOPE, 0, (-9,), March((0, 0), RAINS), (-5,))
        self.assertEqual((type(behind), behind.script), (March, (0,)))
        behind = plays.attack_behind(SLOPE, 0, (-5,), behind, (-2,))
        self.assertEqual((type(behind), behind.script), (March, ()))
        self.assertEqual(plays.attack_move(SLOPE, 0, (-2,), behind), 0)
        behind = plays.attack_behind(SLOPE, 0, (-2,), behind, (0,))
        self.assertIsInstance(behind, (Surge, Heavy))
        self.assertIs(is_attack(SLOPE, 0, (0,), behind), True)
        for level in (-10 ** 9, -1000, -9, 0, 3, 4):
            behind = plays.attack_behind(SLOPE, 0, (level,), March((), RAINS), (level + 1,))
            self.assertIs(is_attack(SLOPE, 0, (level + 1,), behind), True)

    def test_by_trial(self):
        draw = random.Random(1)
        played, ended = {}, {}
        for web, (state, values), attack in some_attacks(draw, 120):
            if not is_attack(web, state, values, attack):
                continue
            kind = type(attack).__name__ + (type(attack.paper).__name__ if isinstance(attack, March) else "")
            most = most_moves(attack)
            for _ in range(3):
                now, old, present, many = attack, values, state, 0
                while many < 60:
                    move = plays.attack_move(web, present, old, now)
                    self.assertEqual(web.moves[move][1], present)
                    many += 1
                    right = answers_to(web, move, old, range(-6, 7))
                    if not right:
                        break
                    new = draw.choice(right)
                    behind = plays.attack_behind(web, present, old, now, new)
                    present = web.moves[move][2]
                    self.assertIs(is_attack(web, present, new, behind), True, kind)
                    if most_moves(now) is not None:
                        self.assertLess(most_moves(behind), most_moves(now))
                    elif isinstance(behind, March):
                        self.assertLess(len(behind.script), len(now.script))
                    else:
                        self.assertEqual(now.script, ())
                    now, old = behind, new
                    played[kind] = played.get(kind, 0) + 1
                else:
                    continue
                ended[kind] = ended.get(kind, 0) + 1
                self.assertTrue(most is None or many <= most)
                self.assertIs(holds_ever(web, state, values), False)
        self.assertEqual(sorted(played), ["Heavy", "MarchPump", "MarchRing", "Surge"])
        self.assertTrue(min(played.values()) > 20 and min(ended.values()) > 30, (played, ended))

    def test_wrong_answers(self):
        draw = random.Random(2)
        broken = 0
        for web, (state, values), attack in some_attacks(draw, 40):
            if is_attack(web, state, values, attack):
                move = plays.attack_move(web, state, values, attack)
                for new in product((-5, 0, 4), repeat=len(values)):
                    if not is_let(web, move, values, new):
                        broken += 1
                        with self.assertRaises(Refused) as caught:
                            plays.attack_behind(web, state, values, attack, new)
                        self.assertEqual(caught.exception.word, "broken")
        self.assertGreater(broken, 100)


class FromTheGround(unittest.TestCase):
    def test_falling(self):
        # A value falls with each move down to a bound: the pump's label goes from the ground to the quantity.
        fall = Web(("level",), ("dry",), (("sun", 0, 0, (("fall", 1, 1, 1), ("now", 0, 1, -5))),))
        one = (0, 0, 1, 1, -4, 0, (("ground", 0), ("rule", 1), ("rule", 0)))
        two = (0, 0, 1, 2, -3, 0, (("ground", 0), ("tour", 0), ("rule", 0)))
        pump = Pump((one, two), 1, 0)
        self.assertIs(is_pump(fall, pump), True)
        for level in (-5, -4, -3, -2, 0, 7, 1000, 10 ** 9):
            self.assertIs(is_attack(fall, 0, (level,), March((), pump)), True)
            attack, many = March((), pump), 0
            while many < 60:
                many += 1
                if level <= -5:
                    break
                attack = plays.attack_behind(fall, 0, (level,), attack, (level - 1,))
                level -= 1
                self.assertIs(is_attack(fall, 0, (level,), attack), True)


class Point49(unittest.TestCase):
    def test_example(self):
        rains = Surge((DAY, DAYS), (1, 0), 0, 5)
        self.assertEqual(plays.attacked_run(TANK, (0, (3,)), rains, ((4,), (5,), (6,), (7,))), ((0, (3,)), ((0, (4,)), (0, (5,)), (0, (6,)))))

    def test_small(self):
        rains = Surge((DAY, DAYS), (1, 0), 0, 5)
        self.assertEqual(plays.attacked_run(TANK, (0, (3,)), rains, ()), ((0, (3,)), ()))
        self.assertEqual(plays.attacked_run(TANK, (0, (3,)), rains, ((4,), (5,))), ((0, (3,)), ((0, (4,)), (0, (5,)))))
        self.assertEqual(plays.attacked_run(TANK, (0, (3,)), rains, ((3,), (5,))), ((0, (3,)), ((0, (3,)),)))

    def test_by_trial(self):
        draw = random.Random(3)
        tried, whole = 0, 0
        for web, position, attack in some_attacks(draw, 80):
            if not is_attack(web, *position, attack):
                continue
            said, old = [], position[1]
            for _ in range(12):
                said.append(tuple([number + draw.randint(-1, 2) for number in old]))
                old = said[-1]
            run = plays.attacked_run(web, position, attack, tuple(said))
            self.assertIs(is_run(web, run, False), True)
            many = len(run[1])
            self.assertEqual([new for _, new in run[1]], said[:many])
            at = first_break(web, run)
            self.assertTrue(at == many - 1 if many < len(said) else at in (None, many - 1))
            self.assertEqual(plays.attacked_run(web, position, attack, ()), (position, ()))
            # The moves are those that attack_move picks.
            now, (state, old) = attack, position
            for place, (move, new) in enumerate(run[1]):
                self.assertEqual(plays.attack_move(web, state, old, now), move)
                if place + 1 < many:
                    now = plays.attack_behind(web, state, old, now, new)
                    state, old = web.moves[move][2], new
            tried += 1
            whole += at is None
        self.assertTrue(tried > 100 and whole > 0, (tried, whole))

    def test_against_controllers_who_hold_out(self):
        draw = random.Random(4)
        ended = 0
        for web in some_webs(draw, 60):
            found = layers(web, 12)
            for state in range(len(web.states)):
                values = (0,) * len(web.quantities)
                least = [k for k in range(13) if not is_held_for(web, state, values, k)]
                if not least or found[least[0]][state] is None:
                    continue
                rows = found[least[0]][state]
                one, other = [(i, j) for i in range(len(rows)) for j in range(len(rows)) if rows[i][j] is not None and rows[i][j] > 0][0]
                items, chain = heaviest_tour(web, state, one, other, least[0])
                attack = [Heavy(items, at) for at in chain if is_attack(web, state, values, Heavy(items, at))][0]
                said, old, present, now = [], values, state, attack
                for left in range(least[0] - 2, -1, -1):
                    move = plays.attack_move(web, present, old, now)
                    present = web.moves[move][2]
                    good = [new for new in answers_to(web, move, old, range(-9, 10)) if is_held_for(web, present, new, left)]
                    if not good:
                        break
                    now = plays.attack_behind(web, web.moves[move][1], old, now, good[0])
                    said.append(good[0])
                    old = good[0]
                if len(said) == least[0] - 1:
                    said.append(old)
                    run = plays.attacked_run(web, (state, values), attack, tuple(said))
                    self.assertEqual((len(run[1]), first_break(web, run)), (least[0], least[0] - 1))
                    ended += 1
        self.assertGreater(ended, 20)

    def test_great(self):
        # Thousands of rounds, played to their end.
        attack, level = Surge((DAY, DAYS), (1, 0), 0, 5000), -4000
        self.assertIs(is_attack(SLOPE, 0, (level,), attack), True)
        many = 0
        while True:
            many += 1
            try:
                attack = plays.attack_behind(SLOPE, 0, (level,), attack, (level + 1,))
            except Refused:
                break
            level += 1
        self.assertEqual(many, 4006)
        items = days(3000)
        wide = Surge(items, tuple(range(2999, -1, -1)), 17, 10 ** 30)
        run = plays.attacked_run(SLOPE, (0, (-10 ** 9,)), wide, tuple([(-10 ** 9 + at,) for at in range(1, 101)]))
        self.assertEqual((len(run[1]), first_break(SLOPE, run)), (100, None))
        draw = random.Random(5)
        for web in (drifting_web(), great_web(draw, -10 ** 6, 10 ** 6)):
            made = judgment(web)
            paper = made.papers[3]
            script = (*made.ways[3], *((paper.move,) if isinstance(paper, Ring) and paper.move is not None else ()))
            run = plays.attacked_run(web, (3, (-10 ** 9,) * 6), March(script, paper), ((0,) * 6,) * 100)
            self.assertIsNotNone(first_break(web, run))


if __name__ == "__main__":
    unittest.main()
