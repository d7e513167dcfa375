import random
import unittest
from itertools import product

from heldalways import slack
from heldalways.errors import InvalidNumber, Refused
from heldalways.tours import keeps_rows, move_arcs
from heldalways.webs import Web
from helping import NAMES, STATES, keeps
from odd import STRANGE, told
from test_answers import CALM, POUR, webs_and_tables

NEAR = (("now", 1, 2, -1), ("now", 2, 1, -1))
GATES = Web(("left", "right"), ("on",), (("up", 0, 0, NEAR + (("rise", 1, 1, 1), ("fall", 2, 2, -2))),))
TABLE = (((0, None, None), (None, 0, -1), (None, -1, 0)),)
HOLD = Web(("x", "y"), ("a", "b"), (("m", 0, 1, (("rise", 1, 1, 0), ("fall", 2, 2, 0))), ("n", 1, 0, (("rise", 1, 1, 0), ("fall", 2, 2, 0))),
                                    ("o", 1, 1, ())))
FAR = 10 ** 400


def walks_to(arcs, begin, last):
    """The greatest weight of walks of new points from one of some begun points; arcs without rings."""
    best = dict(begin)
    for _ in range(12):
        for i, j, weight in arcs:
            if i in best:
                best[j] = max(best.get(j, best[i] + weight), best[i] + weight)
    return best.get(last)


def heirs_by_trial(web, table, move, one, other):
    """The heirs of two points, by the words of point 53."""
    _, start, end, _ = web.moves[move]
    if table[start][one][other] is None:
        return ()
    arcs = move_arcs(web, move)
    points = range(len(web.quantities) + 1)
    among = [(i, j, weight) for side, i, far, j, weight, _ in arcs if side == far == "new"]
    among += [(i, j, table[end][i][j]) for i in points for j in points if table[end][i][j] is not None]
    found = []
    for a, b in product(points, points):
        if a == b or table[end][a][b] is None:
            continue
        into, back = {}, None
        for side, i, _, j, weight, _ in arcs:
            if side == "old" and i == one:
                into[j] = max(into.get(j, weight), weight)
        there = walks_to(among, into, a) if into else None
        for _, q, far, j, weight, _ in arcs:
            if far == "old" and j == other:
                part = walks_to(among, {b: 0}, q)
                if part is not None:
                    back = part + weight if back is None else max(back, part + weight)
        if there is not None and back is not None and there + table[end][a][b] + back == table[start][one][other]:
            found.append((a, b))
    return tuple(found)


def slack_of(rows, values, one, other):
    numbers = (0, *values)
    return numbers[other] - numbers[one] - rows[one][other]


class Point53(unittest.TestCase):
    def test_examples(self):
        self.assertEqual(slack.slacks(TABLE, 0, (3, 3)), ((0, None, None), (None, 0, 1), (None, 1, 0)))
        self.assertEqual(slack.slack_range(GATES, TABLE, (3, 3), 0, 1, 2), (0, 2))

    def test_slacks(self):
        self.assertEqual(slack.slacks(CALM, 1, (3,)), ((0, None), (2, 0)))
        self.assertEqual(slack.slacks(CALM, 1, (7,)), ((0, None), (-2, 0)))
        self.assertEqual(slack.slacks((((0,),),), 0, ()), ((0,),))
        self.assertEqual(slack.slacks((((0, FAR), (None, 0)),), 0, (5,)), ((0, 5 - FAR), (None, 0)))
        draw = random.Random(1)
        for _, table in webs_and_tables(draw, 2, 30):
            for values in product((-3, 0, 2), repeat=2):
                rows = slack.slacks(table, 0, values)
                kept = all([entry is None or entry >= 0 for row in rows for entry in row])
                self.assertEqual(kept, keeps_rows(table[0], values))

    def test_range_refused(self):
        with self.assertRaises(Refused) as caught:
            slack.slack_range(GATES, TABLE, (3, 5), 0, 1, 2)
        self.assertEqual(caught.exception.word, "held")
        with self.assertRaises(Refused) as caught:
            slack.slack_range(POUR, CALM, (6,), 0, 0, 0)
        self.assertEqual(caught.exception.word, "held")

    def test_ranges(self):
        self.assertEqual(slack.slack_range(POUR, CALM, (3,), 1, 1, 0), (0, 5))
        self.assertEqual(slack.slack_range(POUR, CALM, (-9,), 1, 1, 0), (0, 5))
        self.assertEqual(slack.slack_range(POUR, CALM, (2,), 0, 0, 0), (0, 0))
        free = Web(("x",), ("a",), (("m", 0, 0, (("rise", 1, 1, 3),)),))
        loose = (((0, -2), (None, 0)),)
        self.assertEqual(slack.slack_range(free, loose, (0,), 0, 0, 1), (5, None))
        self.assertEqual(slack.slack_range(free, loose, (FAR,), 0, 0, 1), (FAR + 5, None))

    def test_ranges_by_trial(self):
        draw = random.Random(2)
        open_ends, tried = 0, 0
        for web, table in webs_and_tables(draw, 2, 60):
            for _ in range(4):
                move = draw.randrange(len(web.moves))
                _, start, end, rules = web.moves[move]
                values = (draw.randint(-4, 4), draw.randint(-4, 4))
                if keeps_rows(table[start], values):
                    right = [new for new in product(range(-25, 26), repeat=2) if keeps(rules, values, new) and keeps_rows(table[end], new)]
                    for one, other in product(range(3), range(3)):
                        if table[end][one][other] is not None:
                            found = [slack_of(table[end], new, one, other) for new in right]
                            low, high = slack.slack_range(web, table, values, move, one, other)
                            self.assertEqual(low, min(found))
                            self.assertEqual(high, None if max(found) > 17 else max(found))
                            open_ends += high is None
                            tried += one != other
        self.assertTrue(open_ends > 10 and tried > 50, (open_ends, tried))

    def test_heirs(self):
        self.assertEqual(slack.heirs(GATES, TABLE, 0, 1, 2), ())
        hold = (((0, None, None), (None, 0, None), (None, -3, 0)), ((0, None, None), (None, 0, None), (None, -3, 0)))
        self.assertEqual(slack.heirs(HOLD, hold, 0, 2, 1), ())
        hold = (((0, None, None), (None, 0, -3), (None, None, 0)), ((0, None, None), (None, 0, -3), (None, None, 0)))
        self.assertEqual(slack.heirs(HOLD, hold, 0, 1, 2), ((1, 2),))
        # Nothing asks for as much as the table tells.
        self.assertEqual(slack.heirs(HOLD, (((0, None, None), (None, 0, -2), (None, None, 0)), hold[1]), 0, 1, 2), ())
        self.assertEqual(slack.heirs(HOLD, hold, 2, 1, 2), ())
        # Pairs without an entry have no heirs.
        self.assertEqual(slack.heirs(HOLD, hold, 0, 2, 1), ())
        self.assertEqual(slack.heirs(POUR, CALM, 0, 1, 0), ())
        tank = Web(("x",), ("a",), (("m", 0, 0, (("rise", 1, 1, 0), ("now", 1, 0, -5))),))
        self.assertEqual(slack.heirs(tank, (((0, None), (-5, 0)),), 0, 1, 0), ((1, 0),))

    def test_heirs_by_trial(self):
        draw = random.Random(3)
        found = 0
        for web, table in webs_and_tables(draw, 2, 120):
            for move in range(len(web.moves)):
                _, start, end, _ = web.moves[move]
                for one, other in product(range(3), range(3)):
                    pairs = slack.heirs(web, table, move, one, other)
                    self.assertEqual(pairs, heirs_by_trial(web, table, move, one, other))
                    found += len(pairs)
                    for a, b in pairs:
                        # No answer leaves an heir more slack than the two points have.
                        for values in product((-2, 0, 3), repeat=2):
                            if keeps_rows(table[start], values):
                                high = slack.slack_range(web, table, values, move, a, b)[1]
                                self.assertTrue(high is not None and high <= slack_of(table[start], values, one, other))
        self.assertGreater(found, 20)


class Point54(unittest.TestCase):
    def longest(self, web, table, state, one, other, most):
        """The length of the longest lines, by trial of all."""
        if most == 0:
            return 0
        return max([0] + [1 + self.longest(web, table, web.moves[move][2], a, b, most - 1)
                          for move in range(len(web.moves)) if web.moves[move][1] == state
                          for a, b in heirs_by_trial(web, table, move, one, other)])

    def check_line(self, web, table, state, one, other, line):
        for move, a, b in line:
            self.assertEqual(web.moves[move][1], state)
            self.assertIn((a, b), slack.heirs(web, table, move, one, other))
            state, one, other = web.moves[move][2], a, b

    def test_lines(self):
        self.assertEqual(slack.heir_line(GATES, TABLE, 0, 1, 2, 9), ())
        hold = (((0, None, None), (None, 0, -3), (None, None, 0)),) * 2
        self.assertEqual(slack.heir_line(HOLD, hold, 0, 1, 2, 4), ((0, 1, 2), (1, 1, 2), (0, 1, 2), (1, 1, 2)))
        self.assertEqual(slack.heir_line(HOLD, hold, 0, 1, 2, 0), ())
        self.assertEqual(slack.heir_line(HOLD, hold, 1, 1, 2, most=1), ((1, 1, 2),))
        apart = Web(HOLD.quantities, ("a", "b", "c"), (*HOLD.moves, ("p", 2, 0, (("now", 0, 0, 1),))))
        self.assertEqual(slack.heir_line(apart, (*hold, None), 0, 1, 2, 2), ((0, 1, 2), (1, 1, 2)))

    def test_lines_that_end(self):
        # The first move leads to a line of two, the third one to the longest line.
        rules = (("rise", 1, 1, 0), ("fall", 2, 2, 0))
        ends = ((0, 4), (4, 5), (0, 1), (1, 5), (1, 2), (2, 3))
        web = Web(("x", "y"), ("a", "b", "c", "d", "e", "f"), tuple([("m", start, end, rules) for start, end in ends]))
        table = (((0, None, None), (None, 0, -3), (None, None, 0)),) * 6
        for most in range(12):
            line = slack.heir_line(web, table, 0, 1, 2, most)
            self.assertEqual(len(line), min(most, 3))
            self.check_line(web, table, 0, 1, 2, line)
            self.assertEqual(len(slack.heir_line(web, table, 1, 1, 2, most)), min(most, 2))
            self.assertEqual(slack.heir_line(web, table, 3, 1, 2, most), ())
        self.assertEqual(slack.heir_line(web, table, 0, 1, 2, 500), ((2, 1, 2), (4, 1, 2), (5, 1, 2)))

    def test_by_trial(self):
        draw = random.Random(4)
        lengths = []
        for web, table in webs_and_tables(draw, 2, 250):
            for state in (0, 1):
                for one, other in product(range(3), range(3)):
                    if one != other and table[state][one][other] is not None:
                        for most in (1, 4):
                            line = slack.heir_line(web, table, state, one, other, most)
                            self.check_line(web, table, state, one, other, line)
                            self.assertEqual(len(line), self.longest(web, table, state, one, other, most))
                            lengths.append(len(line))
        self.assertTrue(all([lengths.count(many) > 0 for many in (0, 1, 2, 4)]), sorted(set(lengths)))

    def test_slack_does_not_grow(self):
        draw = random.Random(5)
        followed = 0
        for web, table in webs_and_tables(draw, 2, 80):
            for one, other in product(range(3), range(3)):
                if one != other and table[0][one][other] is not None:
                    line = slack.heir_line(web, table, 0, one, other, 5)
                    for values in product((-3, 0, 1), repeat=2):
                        rows, least = table[0], None
                        i, j = one, other
                        for move, a, b in line:
                            if not keeps_rows(rows, values):
                                break
                            if least is None:
                                least = slack_of(rows, values, i, j)
                            right = [new for new in product(range(-8, 9), repeat=2)
                                     if keeps(web.moves[move][3], values, new) and keeps_rows(table[web.moves[move][2]], new)]
                            if not right:
                                break
                            values = draw.choice(right)
                            rows, i, j = table[web.moves[move][2]], a, b
                            self.assertLessEqual(slack_of(rows, values, i, j), least)
                            followed += 1
        self.assertGreater(followed, 60)

    def test_wrong_most(self):
        for value in STRANGE + [None, -1, 501, 10 ** 400]:
            with self.assertRaises(InvalidNumber, msg=told(value)) as caught:
                slack.heir_line(GATES, TABLE, 0, 1, 2, value)
            self.assertEqual(caught.exception.word, "most")

    def test_great(self):
        rules = tuple([("rise", at, at, 0) for at in range(1, 7)] + [("fall", at, at, 0) for at in range(1, 7)])
        web = Web(NAMES, STATES, tuple([("m", at % 8, (at + 1) % 8, rules) for at in range(40)]))
        exact = (tuple([tuple([FAR * (j - i) for j in range(7)]) for i in range(7)]),) * 8
        line = slack.heir_line(web, exact, 0, 1, 5, 500)
        self.assertEqual(len(line), 500)
        self.check_line(web, exact, 0, 1, 5, line[:20])
        self.assertEqual(slack.slack_range(web, exact, tuple([FAR * at for at in range(1, 7)]), 0, 1, 5), (0, 0))
        self.assertIn((1, 5), slack.heirs(web, exact, 39, 1, 5))


if __name__ == "__main__":
    unittest.main()
