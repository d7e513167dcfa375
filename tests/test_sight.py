import random
import unittest

from heldalways import sight
from heldalways.errors import Refused
from heldalways.steps import end_state, is_run
from heldalways.webs import Web
from helping import STATES, random_web

NEAR, SAME = (("rise", 1, 1, -2), ("fall", 1, 1, -2)), (("rise", 1, 1, 0), ("fall", 1, 1, 0))
UP, DOWN = ("up", 1, 0, SAME + (("now", 0, 1, 3),)), ("down", 1, 0, SAME + (("now", 1, 0, -1),))
READY = Web(("x",), ("idle", "sign"), (("wait", 0, 1, NEAR), UP, DOWN))


def ahead_by_trial(web, state, many):
    """The scripts ahead of a state, by the words of point 61."""
    found = [()]
    scripts = []
    while found:
        script = found.pop()
        going = [at for at, move in enumerate(web.moves) if move[1] == end_state(web, state, script)]
        if len(script) == many or not going:
            scripts.append(script)
        else:
            found += [(*script, at) for at in going]
    return tuple(sorted(scripts))


class Point61(unittest.TestCase):
    def refused(self, call, *told):
        with self.assertRaises(Refused) as caught:
            call(*told)
        self.assertEqual(caught.exception.word, "size")

    def test_examples(self):
        self.assertEqual(sight.scripts_ahead(READY, 0, 2), ((0, 1), (0, 2)))
        self.assertEqual(sight.sight_web(READY, 1)[1], ((0, (0,)), (1, (1,)), (1, (2,))))

    def test_scripts_ahead(self):
        self.assertEqual([sight.scripts_ahead(READY, 1, many) for many in range(3)], [((),), ((1,), (2,)), ((1, 0), (2, 0))])
        ending = Web((), ("a", "b", "c"), (("m", 0, 1, ()), ("m", 0, 0, ()), ("m", 1, 2, ())))
        self.assertEqual(sight.scripts_ahead(ending, 0, 3), ((0, 2), (1, 0, 2), (1, 1, 0), (1, 1, 1)))
        self.assertEqual(sight.scripts_ahead(ending, 2, 7), ((),))
        draw = random.Random(1)
        for _ in range(100):
            web = random_web(draw, 0, 3, 4, 0, 0, 0)
            for state in range(3):
                for many in range(4):
                    self.assertEqual(sight.scripts_ahead(web, state, many), ahead_by_trial(web, state, many))

    def test_too_many_scripts(self):
        two = Web((), ("a",), (("m", 0, 0, ()),) * 2)
        self.assertEqual(len(sight.scripts_ahead(two, 0, 7)), 128)
        six = Web((), ("a", "b"), (("m", 0, 0, ()),) * 6)
        self.assertEqual(len(sight.scripts_ahead(six, 0, 2)), 36)
        self.refused(sight.scripts_ahead, six, 0, 3)
        self.assertEqual(sight.scripts_ahead(six, 1, 7), ((),))
        self.refused(sight.scripts_ahead, Web((), ("a",), (("m", 0, 0, ()),) * 40), 0, 7)
        # 200 are not too many.
        hub = Web((), ("a", "b"), (("m", 0, 1, ()),) * 20 + (("m", 1, 1, ()),) * 10)
        self.assertEqual(len(sight.scripts_ahead(hub, 0, 2)), 200)
        hub = Web((), ("a", "b", "c"), (("m", 0, 1, ()),) * 20 + (("m", 1, 1, ()),) * 10 + (("m", 0, 2, ()),))
        self.refused(sight.scripts_ahead, hub, 0, 2)

    def test_sight_web(self):
        self.assertEqual(sight.sight_web(READY, 0), (
            Web(("x",), ("a", "b"), READY.moves), ((0, ()), (1, ())), (0, 1, 2)))
        web, pairs, firsts = sight.sight_web(READY, 1)
        self.assertEqual(web, Web(("x",), ("a", "b", "c"), (
            ("wait", 0, 1, NEAR), ("wait", 0, 2, NEAR), ("up", 1, 0, UP[3]), ("down", 2, 0, DOWN[3]))))
        self.assertEqual((pairs, firsts), (((0, (0,)), (1, (1,)), (1, (2,))), (0, 0, 1, 2)))
        ending = Web((), ("a", "b", "c"), (("m", 0, 1, ()), ("n", 1, 2, ()), ("o", 0, 2, ())))
        web, pairs, firsts = sight.sight_web(ending, 1)
        self.assertEqual(pairs, ((0, (0,)), (0, (2,)), (1, (1,)), (2, ())))
        self.assertEqual(web.moves, (("m", 0, 2, ()), ("o", 1, 3, ()), ("n", 2, 3, ())))
        self.assertEqual((web.states, firsts), (("a", "b", "c", "d"), (0, 2, 1)))
        web, pairs, firsts = sight.sight_web(ending, 7)
        self.assertEqual(pairs, ((0, (0, 1)), (0, (2,)), (1, (1,)), (2, ())))
        self.assertEqual((web.moves, firsts), ((("m", 0, 2, ()), ("o", 1, 3, ()), ("n", 2, 3, ())), (0, 2, 1)))

    def test_by_the_words(self):
        draw = random.Random(2)
        found, refusals = 0, 0
        for _ in range(300):
            web = random_web(draw, 1, 2, 3, 2, -3, 2)
            many = draw.randrange(4)
            pairs = tuple(sorted([(state, script) for state in (0, 1) for script in ahead_by_trial(web, state, many)]))
            moves, firsts = [], []
            for at, (state, script) in enumerate(pairs):
                end = end_state(web, state, script)
                known = [(*script, move) for move, (_, start, _, _) in enumerate(web.moves) if start == end] or [script]
                for longer in known:
                    if longer:
                        name, _, behind, rules = web.moves[longer[0]]
                        moves.append((name, at, pairs.index((behind, longer[1:])), rules))
                        firsts.append(longer[0])
            if len(pairs) > 8 or len(moves) > 40:
                refusals += 1
                self.refused(sight.sight_web, web, many)
                continue
            found += 1
            self.assertEqual(sight.sight_web(web, many), (Web(web.quantities, STATES_OF[:len(pairs)], tuple(moves)), pairs, tuple(firsts)))
        self.assertTrue(found > 100 and refusals > 10, (found, refusals))

    def test_refused_by_size(self):
        nine = Web((), ("a",), (("m", 0, 0, ()),) * 3)
        self.assertEqual(len(sight.sight_web(nine, 1)[0].moves), 9)
        self.refused(sight.sight_web, nine, 2)
        self.refused(sight.sighted_run, nine, 2, ((0, ()), ()), (0, 0))
        # 8 states and 40 moves may be, 41 moves may not.
        full = Web((), STATES, tuple([("m", at % 8, (at + 1) % 8, ()) for at in range(40)]))
        self.assertEqual(len(sight.sight_web(full, 0)[0].moves), 40)
        self.refused(sight.sight_web, full, 1)
        seven = Web((), ("a",), (("m", 0, 0, ()),) * 7)
        self.refused(sight.sight_web, seven, 1)
        six = Web((), ("a",), (("m", 0, 0, ()),) * 6)
        self.assertEqual(len(sight.sight_web(six, 1)[0].moves), 36)
        self.refused(sight.sight_web, Web((), ("a",), (("m", 0, 0, ()),) * 40), 7)
        ring = Web((), STATES, tuple([("m", at, (at + 1) % 8, ()) for at in range(8)]))
        self.assertEqual(sight.sight_web(ring, 7)[1][1], (1, (1, 2, 3, 4, 5, 6, 7)))

    def test_runs(self):
        run = ((0, (3,)), ((0, (1,)), (2, (1,))))
        self.assertEqual(sight.sighted_run(READY, 1, run, (0,)), ((0, (3,)), ((1, (1,)), (3, (1,)))))
        self.assertEqual(sight.plain_run(((0, (0,)), (1, (1,)), (1, (2,))), (0, 0, 1, 2), ((0, (3,)), ((1, (1,)), (3, (1,))))), run)
        self.assertEqual(sight.sighted_run(READY, 0, run, ()), run)
        self.assertEqual(sight.sighted_run(READY, 1, ((1, (3,)), ()), (2,)), ((2, (3,)), ()))
        # Two moves that lead to the same pair.
        twin = Web((), ("a",), (("m", 0, 0, ()), ("n", 0, 0, ())))
        self.assertEqual(sight.sighted_run(twin, 0, ((0, ()), ((1, ()), (0, ()))), ()), ((0, ()), ((1, ()), (0, ()))))

    def test_runs_there_and_back(self):
        draw = random.Random(3)
        tried = 0
        for _ in range(300):
            web = random_web(draw, 1, 3, 4, 2, -3, 2)
            many = draw.randrange(4)
            try:
                made, pairs, firsts = sight.sight_web(web, many)
            except Refused:
                continue
            state = begin = draw.randrange(3)
            steps = []
            for _ in range(draw.randrange(5)):
                going = [at for at, move in enumerate(web.moves) if move[1] == state]
                if going:
                    steps.append((draw.choice(going), (draw.randint(-3, 3),)))
                    state = web.moves[steps[-1][0]][2]
            run = ((begin, (0,)), tuple(steps))
            for ahead in sight.scripts_ahead(web, state, many):
                other = sight.sighted_run(web, many, run, ahead)
                self.assertIs(is_run(made, other, False), True)
                self.assertEqual(sight.plain_run(pairs, firsts, other), run)
                last = other[0][0] if not steps else made.moves[other[1][-1][0]][2]
                self.assertEqual(pairs[last], (state, ahead))
                self.assertEqual(pairs[other[0][0]], (begin, (tuple([move for move, _ in steps]) + ahead)[:many]))
                tried += 1
        self.assertGreater(tried, 200)


    def test_great(self):
        moves = tuple([("m", at, (at + 1) % 8, ()) for at in range(8)])
        ring = Web(("a", "b", "c", "d", "e", "f"), STATES, moves)
        script = tuple([at % 8 for at in range(100)])
        run = ((0, (0,) * 6), tuple([(move, (move,) * 6) for move in script]))
        made, pairs, firsts = sight.sight_web(ring, 7)
        other = sight.sighted_run(ring, 7, run, (4, 5, 6, 7, 0, 1, 2))
        self.assertIs(is_run(made, other, False), True)
        self.assertEqual(sight.plain_run(pairs, firsts, other), run)
        five = Web((), STATES, tuple([("m", at % 8, (at + at // 8) % 8, ()) for at in range(40)]))
        run = ((0, ()), ((0, ()),) * 100)
        self.assertEqual(sight.sighted_run(five, 0, run, ()), run)


STATES_OF = ("a", "b", "c", "d", "e", "f", "g", "h")

if __name__ == "__main__":
    unittest.main()
