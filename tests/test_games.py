import random
import time
import unittest
from itertools import product

from heldalways import games
from heldalways.errors import Refused
from heldalways.shapes import moved_values, moved_web, turned_values, turned_web
from heldalways.tours import is_held_for
from heldalways.webs import Web, without_moves
from helping import NAMES, STATES, held_by_trial, keeps, random_rule, random_web, reach, window

SLOW = (("rise", 1, 1, -1), ("fall", 1, 1, -1))
FORK = Web(("x",), ("fork", "rest"), (("up", 0, 1, SLOW + (("now", 0, 1, 3),)), ("down", 0, 1, SLOW + (("now", 1, 0, -1),))))
TANK = Web(("level",), ("wet",), (("rain", 0, 0, (("rise", 1, 1, 1), ("now", 0, 1, 0), ("now", 1, 0, -5))),))
FREE = Web(NAMES[:3], ("a",), (("m", 0, 0, ()),))


def weighty(many, weight):
    """A web with so many quantities and a rule of this weight."""
    return Web(NAMES[:many], ("a",), (("m", 0, 0, (("now", 0, 0, -7), ("rise", 0, 0, weight))),))


def trial(web, state, values, most, kept=None):
    return held_by_trial(web, state, values, most, kept)


def followed(web, values, script):
    if not script:
        return True
    rules = web.moves[script[0]][3]
    return any([followed(web, new, script[1:]) for new in product(window(web, values, len(script)), repeat=len(values))
                if keeps(rules, values, new)])


def small_webs(draw, wanted):
    """Webs with few windows to try, and values."""
    for _ in range(wanted):
        many = draw.choice((0, 1, 1, 2))
        low, high = {0: (-1, 1), 1: (-3, 2), 2: (-2, 1)}[many]
        web = random_web(draw, many, 2, 4, 4, low, high)
        values = tuple([draw.randint(-3, 3) if many == 1 else draw.randint(-1, 1) for _ in range(many)])
        yield web, values, (3, 3, 2)[many]


class Games(unittest.TestCase):
    def refused(self, call, *told):
        with self.assertRaises(Refused, msg=told) as caught:
            call(*told)
        self.assertEqual(caught.exception.word, "size")


class Point17(Games):
    def test_reach(self):
        for many in range(4):
            for weight in (-4, 0, 3):
                web = weighty(many, weight)
                free = tied = 1
                for most in range(5):
                    self.assertEqual(games.reach_of(web, most), (tied - 1) * max(weight, 0), (many, most))
                    self.assertEqual(games.reach_of(web, most), reach(web, most))
                    free, tied = 2 + (many - 1) * free, 1 + tied + (many - 1) * free
        self.assertEqual([games.reach_of(weighty(2, 5), most) for most in range(5)], [0, 10, 30, 60, 100])
        self.assertEqual([games.reach_of(weighty(3, 1), most) for most in range(5)], [0, 3, 12, 33, 78])
        self.assertEqual([games.reach_of(weighty(0, 1), most) for most in range(5)], [0] * 5)
        self.assertEqual(games.reach_of(Web((), ("a",), ()), 4), 0)
        self.assertEqual(games.reach_of(Web(NAMES, ("a",), (("m", 0, 0, (("now", 0, 0, 10 ** 6),)),)), 1), 6 * 10 ** 6)

    def test_window(self):
        self.assertEqual(games.window_of(TANK, (3,), 2), (-2, 5))
        self.assertEqual(games.window_of(TANK, (-3,), 0), (-3, 0))
        self.assertEqual(games.window_of(FREE, (-3, 2, 1), 4), (-3, 2))
        self.assertEqual(games.window_of(Web((), ("a",), ()), (), 4), (0, 0))
        self.assertEqual(games.window_of(weighty(2, 1), (1, 2), 3), (-12, 14))

    def test_refused(self):
        four = Web(NAMES[:4], ("a",), (("m", 0, 0, ()),))
        for web, old, most in ((four, (0,) * 4, 0), (TANK, (0,), 5), (TANK, (996,), 2), (FREE, (10, 0, 0), 0), (weighty(2, 1), (6, -1), 3),
                               (Web((), ("a",), (("m", 0, 0, ()),)), (), 5), (TANK, (10 ** 9,), 1), (weighty(1, 10 ** 6), (0,), 1)):
            self.refused(games.window_of, web, old, most)
            for call in (games.can_hold, games.beating_moves, games.least_moves):
                self.refused(call, web, 0, old, most)
            self.refused(games.first_run, web, (0, old), (), most)
            if most > 0:
                self.refused(games.right_answers, web, 0, old, most - 1)
            self.refused(games.can_follow, web, old, (0,) * most)
        self.refused(games.let_answers, four, 0, (0,) * 4)
        self.refused(games.let_answers, TANK, 0, (998,))
        self.assertEqual(games.let_answers(TANK, 0, (997,)), ())
        self.refused(games.right_answers, TANK, 0, (998,), 0)
        self.refused(games.right_answers, TANK, 0, (0,), 4)
        self.refused(games.can_hold, TANK, 0, (10 ** 9,), 10 ** 9)
        # As great as they may be.
        self.assertEqual(games.window_of(TANK, (999,), 0), (0, 999))
        self.assertIs(games.can_hold(TANK, 0, (995,), 2), False)
        self.assertIs(games.can_hold(FREE, 0, (9, 0, 0), 4), True)
        self.assertEqual(len(games.let_answers(FREE, 0, (9, 0, 0))), 1000)
        self.assertEqual(len(games.let_answers(weighty(2, 0), 0, (15, -15))), 961)
        self.assertIs(games.can_hold(Web((), ("a",), ()), 0, (), 4), True)

    def test_let_answers(self):
        self.assertEqual(games.let_answers(TANK, 0, (3,)), ((4,),))
        self.assertEqual(games.let_answers(TANK, 0, (-3,)), ((0,), (1,)))
        self.assertEqual(games.let_answers(TANK, 0, (5,)), ())
        draw = random.Random(1)
        for web, old, _ in small_webs(draw, 150):
            low, high = games.window_of(web, old, 1)
            for at, move in enumerate(web.moves):
                right = [new for new in product(range(low, high + 1), repeat=len(old)) if keeps(move[3], old, new)]
                self.assertEqual(games.let_answers(web, at, old), tuple(right))
                # If any are let, some of these are.
                wide = product(range(low - 6, high + 7), repeat=len(old))
                self.assertEqual(any([keeps(move[3], old, new) for new in wide]), right != [])


class Point18(Games):
    def test_example(self):
        self.assertEqual([games.can_hold(FORK, 0, (x,), 2) for x in (1, 2, 3)], [False, True, False])

    def test_can_hold(self):
        self.assertEqual([games.can_hold(TANK, 0, (level,), 3) for level in (-9, 0, 2, 3, 5)], [True, True, True, False, False])
        self.assertEqual([games.can_hold(TANK, 0, (3,), most) for most in range(5)], [True, True, True, False, False])
        self.assertIs(games.can_hold(TANK, 0, (9,), 0), True)
        self.assertIs(games.can_hold(Web((), ("a", "b"), (("m", 0, 1, (("now", 0, 0, 1),)),)), 0, (), 1), False)

    def test_by_trial(self):
        draw = random.Random(2)
        found = []
        for web, values, most in small_webs(draw, 150):
            kept = {}
            for state in (0, 1):
                for many in range(most + 1):
                    held = trial(web, state, values, many, kept)
                    found.append(held)
                    self.assertIs(games.can_hold(web, state, values, many), held)
        self.assertTrue(100 < sum(found) < len(found) - 100, (sum(found), len(found)))

    def test_as_the_layers_tell(self):
        draw = random.Random(3)
        found = []
        for _ in range(300):
            many, low, high, most = draw.choice(((1, -40, 30, 4), (1, -9, 4, 4), (2, -4, 1, 3), (2, -9, 0, 4), (3, -3, 1, 1), (3, -4, 0, 4)))
            web = random_web(draw, many, 3, 5, 6, low, high)
            values = tuple([draw.randint(-2, 2) for _ in range(many)]) if many < 3 else (1, 0, -1)
            for state in range(3):
                held = is_held_for(web, state, values, most)
                found.append(held)
                self.assertIs(games.can_hold(web, state, values, most), held)
                for script in [(at, other) for at, move in enumerate(web.moves) if move[1] == state
                               for other, behind in enumerate(web.moves) if behind[1] == move[2]]:
                    # Held values can follow each script.
                    if most > 1 and is_held_for(web, state, values, 2):
                        self.assertIs(games.can_follow(web, values, script), True)
        self.assertTrue(100 < sum(found) < len(found) - 100, (sum(found), len(found)))

    def test_can_follow(self):
        self.assertEqual([games.can_follow(FORK, (x,), (0,)) for x in (1, 2, 3, 9)], [False, True, True, True])
        self.assertEqual([games.can_follow(FORK, (x,), (1,)) for x in (1, 2, 3, 9)], [True, True, False, False])
        self.assertIs(games.can_follow(FORK, (1,), ()), True)
        self.assertEqual([games.can_follow(TANK, (3,), (0,) * many) for many in range(5)], [True, True, True, False, False])
        draw = random.Random(4)
        found = []
        for web, values, most in small_webs(draw, 120):
            for at, move in enumerate(web.moves):
                for script in [(at,)] + [(at, other) for other, behind in enumerate(web.moves) if behind[1] == move[2]]:
                    found.append(followed(web, values, script))
                    self.assertIs(games.can_follow(web, values, script), found[-1])
        self.assertTrue(100 < sum(found) < len(found) - 100, (sum(found), len(found)))

    def test_other_webs(self):
        draw = random.Random(5)
        for web, values, most in small_webs(draw, 80):
            held = games.can_hold(web, 0, values, most)
            shifts = tuple([draw.randint(-2, 2) for _ in values])
            self.assertEqual(games.can_hold(turned_web(web), 0, turned_values(values), most), held)
            if len(values) < 2:
                self.assertEqual(games.can_hold(moved_web(web, shifts), 0, moved_values(values, shifts), most), held)
            beside = tuple([(*move[:3], move[3] + tuple([(*rule[:3], rule[3] - 1) for rule in move[3]])) for move in web.moves])
            self.assertEqual(games.can_hold(Web(web.quantities, web.states, beside), 0, values, most), held)
            weaker = tuple([(*move[:3], tuple([(*rule[:3], rule[3] - 1) for rule in move[3]][:3])) for move in web.moves])
            if held:
                self.assertIs(games.can_hold(Web(web.quantities, web.states, weaker), 0, values, most), True)
                self.assertIs(games.can_hold(without_moves(web, (1, 3)), 0, values, most), True)


class Point19(Games):
    def test_examples(self):
        self.assertEqual(games.right_answers(TANK, 0, (1,), 1), ((2,), (3,)))
        self.assertEqual(games.first_run(TANK, (0, (1,)), (0, 0), 3), ((0, (1,)), ((0, (2,)), (0, (3,)))))

    def test_right_answers(self):
        draw = random.Random(6)
        some = 0
        for web, old, most in small_webs(draw, 120):
            kept = {}
            for at, move in enumerate(web.moves):
                for many in range(most):
                    right = tuple([new for new in product(window(web, old, many + 1), repeat=len(old))
                                   if keeps(move[3], old, new) and trial(web, move[2], new, many, kept)])
                    answers = games.right_answers(web, at, old, many)
                    self.assertEqual(answers, right)
                    some += len(right) > 1
                    for one, other in product(right[:9], right[-9:]):
                        for call in (max, min, lambda first, last: (first + last) // 2):
                            self.assertIn(tuple(map(call, one, other)), right)
        self.assertGreater(some, 100)

    def test_beating_and_least_moves(self):
        self.assertEqual(games.beating_moves(FORK, 0, (1,), 2), (0,))
        self.assertEqual(games.beating_moves(FORK, 0, (2,), 2), ())
        self.assertEqual(games.beating_moves(FORK, 0, (4,), 1), (1,))
        self.assertEqual(games.beating_moves(TANK, 0, (9,), 0), ())
        self.assertEqual([games.least_moves(TANK, 0, (3,), most) for most in range(5)], [None, None, None, 3, 3])
        self.assertEqual(games.least_moves(FORK, 1, (3,), 4), None)
        draw = random.Random(7)
        found = []
        for web, values, most in small_webs(draw, 120):
            kept = {}
            for state in (0, 1):
                for many in range(most + 1):
                    beating = [] if many == 0 else [
                        at for at, move in enumerate(web.moves) if move[1] == state and not any(
                            [trial(web, move[2], new, many - 1, kept)
                             for new in product(window(web, values, many), repeat=len(values)) if keeps(move[3], values, new)])]
                    self.assertEqual(games.beating_moves(web, state, values, many), tuple(beating))
                    self.assertEqual(beating == [], trial(web, state, values, many, kept))
                    least = [k for k in range(many + 1) if not trial(web, state, values, k, kept)]
                    found.append(least[0] if least else None)
                    self.assertEqual(games.least_moves(web, state, values, many), found[-1])
        self.assertTrue(all([found.count(k) > 1 for k in (None, 1, 2, 3)]))

    def test_first_run(self):
        self.assertEqual(games.first_run(TANK, (0, (1,)), (), 3), ((0, (1,)), ()))
        self.assertIsNone(games.first_run(TANK, (0, (3,)), (0, 0), 3))
        self.assertEqual(games.first_run(TANK, (0, (3,)), (0, 0), 2), ((0, (3,)), ((0, (4,)), (0, (5,)))))
        draw = random.Random(8)
        lost, whole = 0, 0
        for web, values, most in small_webs(draw, 150):
            kept = {}
            script = ()
            state = draw.randrange(2)
            begin = state
            for _ in range(draw.randrange(most + 1)):
                going = [at for at, move in enumerate(web.moves) if move[1] == state]
                if going:
                    script += (draw.choice(going),)
                    state = web.moves[script[-1]][2]
            old, steps = values, []
            for at, move in enumerate(script):
                left = most - at
                right = [new for new in product(window(web, old, left), repeat=len(old))
                         if keeps(web.moves[move][3], old, new) and trial(web, web.moves[move][2], new, left - 1, kept)]
                if not right:
                    steps = None
                    break
                old = right[0]
                steps.append((move, old))
            run = games.first_run(web, (begin, values), script, most)
            self.assertEqual(run, None if steps is None else ((begin, values), tuple(steps)))
            if trial(web, begin, values, most, kept):
                self.assertIsNotNone(run)
            lost += run is None
            whole += run is not None and len(script) > 1
        self.assertTrue(lost > 30 and whole > 15, (lost, whole))

    def test_great(self):
        draw = random.Random(9)
        for many, low, high, values, most in ((1, -900, 100, (50,), 4), (2, -5, 1, (3, 0), 3), (2, -30, 0, (15, -15), 4),
                                              (3, -10, 0, (5, -4, 3), 4), (3, -10, 1, (1, 0, 0), 1)):
            web = Web(NAMES[:many], STATES, tuple([("m", at % 8, (3 * at) % 8, tuple(
                [random_rule(draw, many, low, high) for _ in range(30)])) for at in range(40)]))
            held = is_held_for(web, 0, values, most)
            self.assertIs(games.can_hold(web, 0, values, most), held)
            self.assertEqual(games.beating_moves(web, 0, values, most) == (), held)
            self.assertEqual(games.least_moves(web, 0, values, most) is None, held)
            self.assertEqual(games.first_run(web, (0, values), (0,), most) is None, games.right_answers(web, 0, values, most - 1) == ())
            script = (0,) if most == 1 else (0, 0)
            self.assertIn(games.can_follow(web, values, script), (True, False))
        still = Web(NAMES[:3], STATES, tuple([("m", at % 8, (at + 1) % 8, tuple(
            [("rise", i, i, 0) for i in (1, 2, 3)] * 10)) for at in range(40)]))
        self.assertIs(games.can_hold(still, 0, (9, 0, 5), 4), True)
        self.assertEqual(games.first_run(still, (0, (9, 0, 5)), (0, 1, 2), 4)[1][2], (2, (9, 0, 5)))


class Quickly(unittest.TestCase):
    def test_many_games(self):
        # A first window of 900 values: hundreds of these were too slow when each value was tried.
        web = Web(("ba", "bc"), ("a",), (
            ("goes", 0, 0, (("now", 0, 1, -2), ("fall", 2, 2, 1), ("now", 0, 2, -1), ("rise", 0, 1, -1), ("rise", 0, 1, -1), ("rise", 0, 1, 1),
                            ("fall", 1, 1, 0))),
            ("goes", 0, 0, (("fall", 1, 1, 1), ("now", 0, 1, 0), ("fall", 2, 2, 0), ("now", 0, 2, -1), ("fall", 0, 0, -2), ("rise", 1, 0, -3),
                            ("rise", 2, 1, -3)))))
        begin = time.process_time()
        for _ in range(200):
            self.assertIs(games.can_hold(web, 0, (3, 6), 3), False)
            self.assertEqual(games.right_answers(web, 0, (3, 6), 2)[0], (2, 1))
            self.assertEqual(games.beating_moves(web, 0, (3, 6), 3), (1,))
            self.assertEqual(games.least_moves(web, 0, (3, 6), 3), 1)
            self.assertEqual(games.first_run(web, (0, (3, 6)), (0, 0, 0), 3), ((0, (3, 6)), ((0, (2, 1)), (0, (1, 0)), (0, (1, -1)))))
            self.assertIs(games.can_follow(web, (3, 6), (0, 0, 0)), True)
        # It takes some tenths of a second; with each value tried it took nine seconds.
        self.assertLess(time.process_time() - begin, 4)


if __name__ == "__main__":
    unittest.main()
