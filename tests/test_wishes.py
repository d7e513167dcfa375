import random
import time
import unittest
from itertools import combinations, product

from heldalways import staying, wishes
from heldalways.answers import is_answer, move_rows
from heldalways.bounds import is_point_walk, walk_weight
from heldalways.court import best_table
from heldalways.errors import Refused
from heldalways.tours import keeps_rows
from heldalways.webs import Web
from helping import NAMES, STATES, keeps
from odd import ODD, STRANGE, spoiled, told
from test_answers import CALM, GATES, POUR, TABLE, webs_and_tables

FAR = 10 ** 400


def distance(new, wish):
    return max([0] + [abs(number - wished) for number, wished in zip(new, wish) if wished is not None])


def cases(draw, wanted):
    """Webs with right tables, moves, values that keep the table, and wishes."""
    for web, table in webs_and_tables(draw, 2, wanted):
        for _ in range(8):
            move = draw.randrange(len(web.moves))
            values = (draw.randint(-4, 4), draw.randint(-4, 4))
            if keeps_rows(table[web.moves[move][1]], values):
                yield web, table, values, move, tuple([draw.choice((None, draw.randint(-6, 6), draw.randint(-6, 6))) for _ in range(2)])


def answers_near(web, table, values, move, span):
    _, _, end, rules = web.moves[move]
    return [new for new in product(span, repeat=2) if keeps(rules, values, new) and keeps_rows(table[end], new)]


class Wishing(unittest.TestCase):
    def refused(self, call, *told_values):
        with self.assertRaises(Refused, msg=told(told_values)) as caught:
            call(*told_values)
        self.assertEqual(caught.exception.word, "held")


class Point45(Wishing):
    def test_examples(self):
        self.assertEqual(wishes.near_answer(GATES, TABLE, (0, 0), 0, (0, 9)), (4, 5))
        self.assertEqual(wishes.least_distance(GATES, TABLE, (0, 0), 0, (0, 9)), 4)

    def test_small(self):
        self.assertEqual(wishes.least_distance(GATES, TABLE, (0, 0), 0, (None, None)), 0)
        self.assertEqual(wishes.far_walk(GATES, TABLE, (0, 0), 0, (None, None)), ())
        self.assertEqual(wishes.near_answer(GATES, TABLE, (0, 0), 0, (7, None))[0], 7)
        self.assertEqual(wishes.least_distance(GATES, TABLE, (0, 0), 0, (-3, None)), 4)
        self.assertEqual(wishes.near_answer(GATES, TABLE, (0, 0), 0, (-3, None))[0], 1)
        self.assertEqual(wishes.least_distance(GATES, TABLE, (0, 0), 0, (None, -3)), 3)
        self.assertEqual(wishes.least_distance(GATES, TABLE, (0, 0), 0, (5, FAR)), (FAR - 5) // 2)
        self.assertEqual([wishes.near_answer(POUR, CALM, (3,), 0, (wish,)) for wish in (0, 4, 9)], [(3,), (4,), (5,)])
        bare = Web((), ("a",), (("m", 0, 0, ()),))
        self.assertEqual((wishes.least_distance(bare, (((0,),),), (), 0, ()), wishes.near_answer(bare, (((0,),),), (), 0, ()),
                          wishes.far_walk(bare, (((0,),),), (), 0, ())), (0, (), ()))

    def test_refused(self):
        for call in (wishes.least_distance, wishes.near_answer, wishes.far_walk):
            self.refused(call, GATES, TABLE, (0, 2), 0, (None, None))
            self.refused(call, POUR, CALM, (6,), 0, (3,))
        # This one is not.
        self.assertIs(wishes.is_far_walk(POUR, CALM, (6,), 0, (3,), 3, (1, 2)), True)
        self.assertIs(wishes.is_far_walk(POUR, CALM, (6,), 0, (3,), 4, (1, 2)), False)

    def test_by_trial(self):
        draw = random.Random(1)
        far = 0
        for web, table, values, move, wish in cases(draw, 80):
            right = answers_near(web, table, values, move, range(-25, 26))
            least = min([distance(new, wish) for new in right])
            self.assertEqual(wishes.least_distance(web, table, values, move, wish), least)
            near = wishes.near_answer(web, table, values, move, wish)
            self.assertIs(is_answer(web, table, values, move, near), True)
            self.assertEqual(distance(near, wish), least)
            walk = wishes.far_walk(web, table, values, move, wish)
            self.assertEqual(walk == (), least == 0)
            if walk:
                far += 1
                self.assertIs(wishes.is_far_walk(web, table, values, move, wish, least, walk), True)
        self.assertGreater(far, 100)

    def test_no_far_walk_for_more(self):
        draw = random.Random(2)
        found = []
        for web, table, values, move, wish in cases(draw, 12):
            least = wishes.least_distance(web, table, values, move, wish)
            rows = move_rows(web, table, move)
            numbers = (0, *values, *wish)
            for size in range(1, 4):
                for walk in product(range(5), repeat=size):
                    first, last = numbers[walk[0]], numbers[walk[-1]]
                    fits = is_point_walk(rows, walk) and first is not None and last is not None and max(walk[0], walk[-1]) > 2
                    for by in range(least - 1, least + 3):
                        lack = first + walk_weight(rows, walk) - last if fits else None
                        both = walk[0] > 2 and walk[-1] > 2
                        shown = fits and lack > (2 * (by - 1) if both else by - 1)
                        found.append(shown)
                        self.assertIs(wishes.is_far_walk(web, table, values, move, wish, by, walk), shown)
                        self.assertFalse(shown and by > max(least, 0))
        self.assertTrue(50 < sum(found) < len(found) - 50, sum(found))

    def test_any_value(self):
        walk = wishes.far_walk(GATES, TABLE, (0, 0), 0, (0, 9))
        self.assertIs(wishes.is_far_walk(GATES, TABLE, (0, 0), 0, (0, 9), 4, walk), True)
        for value in [*ODD, *spoiled(walk, STRANGE + [None, 9, ()])]:
            self.assertIs(wishes.is_far_walk(GATES, TABLE, (0, 0), 0, (0, 9), 4, value), False, told(value))
        self.assertIs(wishes.is_far_walk(GATES, TABLE, (0, 0), 0, (0, 9), FAR, walk), False)
        self.assertIs(wishes.is_far_walk(GATES, TABLE, (0, 0), 0, (0, 9), -FAR, walk), True)
        # Ends without numbers, and two old ends.
        self.assertIs(wishes.is_far_walk(GATES, TABLE, (0, 0), 0, (None, 9), 1, (1, 3)), False)
        self.assertIs(wishes.is_far_walk(GATES, TABLE, (0, 0), 0, (None, None), -FAR, (0,)), False)
        self.assertIs(wishes.is_far_walk(GATES, TABLE, (0, 0), 0, (0, 9), 0, (3,)), True)
        self.assertIs(wishes.is_far_walk(GATES, TABLE, (0, 0), 0, (0, 9), 1, (3,)), False)

    def test_great(self):
        rules = tuple([("rise", at, at, 1) for at in range(1, 7)] + [("now", at, at % 6 + 1, -2) for at in range(1, 7)])
        web = Web(NAMES, STATES, tuple([("m", at % 8, (at + 1) % 8, rules) for at in range(40)]))
        table = (tuple([tuple([0 if i == j else -2 * ((j - i) % 6) if 0 not in (i, j) else None for j in range(7)]) for i in range(7)]),) * 8
        wish = (FAR, 0, None, -FAR, 3, FAR)
        least = wishes.least_distance(web, table, (0,) * 6, 39, wish)
        near = wishes.near_answer(web, table, (0,) * 6, 39, wish)
        self.assertEqual(distance(near, wish), least)
        self.assertIs(is_answer(web, table, (0,) * 6, 39, near), True)
        self.assertIs(wishes.is_far_walk(web, table, (0,) * 6, 39, wish, least, wishes.far_walk(web, table, (0,) * 6, 39, wish)), True)


class Point46(Wishing):
    def test_examples(self):
        self.assertEqual(staying.clashing(GATES, TABLE, (0, 0), 0, (0, 9)), ((1,), ()))
        self.assertEqual(staying.clashing(GATES, TABLE, (0, 0), 0, (3, 9)), ((), ((1, 2),)))

    def test_small(self):
        self.assertEqual(staying.clashing(GATES, TABLE, (0, 0), 0, (None, None)), ((), ()))
        self.assertEqual(staying.clashing(GATES, TABLE, (0, 0), 0, (3, 4)), ((), ()))
        self.assertEqual(staying.clashing(GATES, TABLE, (0, 0), 0, (0, -1)), ((1, 2), ()))
        self.assertEqual(staying.most_wishes(GATES, TABLE, (0, 0), 0, (3, 4)), (3, 4))
        self.assertEqual(staying.most_wishes(GATES, TABLE, (0, 0), 0, (0, 9))[1], 9)
        answer = staying.most_wishes(GATES, TABLE, (0, 0), 0, (3, 9))
        self.assertTrue(answer[0] == 3 or answer[1] == 9)
        bare = Web((), ("a",), (("m", 0, 0, ()),))
        self.assertEqual((staying.clashing(bare, (((0,),),), (), 0, ()), staying.most_wishes(bare, (((0,),),), (), 0, ())), (((), ()), ()))

    def test_refused(self):
        for call in (staying.clashing, staying.most_wishes):
            self.refused(call, GATES, TABLE, (0, 2), 0, (None, None))
            self.refused(call, POUR, CALM, (6,), 0, (9,))

    def check(self, web, table, values, move, wish, right):
        """Compares with all answers near by; returns how many can be had, and whether some clash."""
        many = len(wish)
        wished = [at + 1 for at in range(many) if wish[at] is not None]

        def had(lot):
            return any([all([new[at - 1] == wish[at - 1] for at in lot]) for new in right])
        alone = tuple([at for at in wished if not had((at,))])
        others = [at for at in wished if at not in alone]
        pairs = tuple([pair for pair in combinations(others, 2) if not had(pair)])
        self.assertEqual(staying.clashing(web, table, values, move, wish), (alone, pairs))
        most = max([len(lot) for size in range(many + 1) for lot in combinations(wished, size) if had(lot)])
        answer = staying.most_wishes(web, table, values, move, wish)
        self.assertIs(is_answer(web, table, values, move, answer), True)
        self.assertEqual(sum([number == wished for number, wished in zip(answer, wish)]), most)
        return alone, pairs

    def test_by_trial(self):
        draw = random.Random(3)
        clashes, lone = 0, 0
        for web, table, values, move, wish in cases(draw, 80):
            alone, pairs = self.check(web, table, values, move, wish, answers_near(web, table, values, move, range(-25, 26)))
            clashes += pairs != ()
            lone += alone != ()
        self.assertTrue(clashes > 5 and lone > 20, (clashes, lone))

    def test_three(self):
        draw = random.Random(4)
        several = 0
        for _ in range(60):
            rules = tuple([("now", i, j, draw.randint(-2, 0)) for i, j in ((1, 2), (2, 1), (2, 3), (3, 2), (3, 1), (1, 3))])
            web = Web(NAMES[:3], ("a",), (("m", 0, 0, rules),))
            table = (tuple([tuple([0 if i == j else None for j in range(4)]) for i in range(4)]),)
            wish = tuple([draw.randint(-2, 2) for _ in range(3)])
            right = [new for new in product(range(-6, 7), repeat=3) if keeps(rules, (0, 0, 0), new)]
            several += len(self.check(web, table, (0, 0, 0), 0, wish, right)[1]) > 1
        self.assertGreater(several, 10)

    def test_great(self):
        rules = tuple([("now", i, j, 0) for i in range(1, 7) for j in range(1, 7) if i != j])
        web = Web(NAMES, STATES, tuple([("m", at % 8, (at + 1) % 8, rules) for at in range(40)]))
        table = (tuple([tuple([0 if i == j else None for j in range(7)]) for i in range(7)]),) * 8
        alone, pairs = staying.clashing(web, table, (0,) * 6, 0, (FAR, 2, FAR, 2, 2, None))
        self.assertEqual((alone, pairs), ((), ((1, 2), (1, 4), (1, 5), (2, 3), (3, 4), (3, 5))))
        self.assertEqual(staying.most_wishes(web, table, (0,) * 6, 0, (FAR, 2, FAR, 2, 2, None)), (2,) * 6)


class Quickly(unittest.TestCase):
    def test_many_walks(self):
        # Most values asked are no walks at all: they are told at a glance.
        web = Web(("a", "b", "c"), ("on",), (("up", 0, 0, (
            ("now", 1, 2, -1), ("now", 2, 1, -1), ("rise", 1, 1, -1), ("fall", 2, 2, -2), ("now", 0, 3, -4), ("now", 3, 0, -9), ("rise", 3, 3, -2),
            ("now", 2, 3, -6))),))
        table = best_table(web)
        told_walk = (web, table, (0, 0, 0), 0, (0, 9, None), 4)
        begin = time.process_time()
        for _ in range(2000):
            for value in (None, [0, 4], (0, 4, 5), (0,), ("a", 5), (9, 4), (0, 1, 2, 3, 4, 5, 6), ()):
                self.assertIs(wishes.is_far_walk(*told_walk, value), False)
            self.assertIs(wishes.is_far_walk(*told_walk, (5, 4)), True)
        for _ in range(500):
            self.assertEqual(wishes.least_distance(*told_walk[:5]), 7)
            self.assertEqual(wishes.near_answer(*told_walk[:5])[1], 2)
        # It takes some hundredths of a second; with all rows made each time it took some tenths.
        self.assertLess(time.process_time() - begin, 2)


if __name__ == "__main__":
    unittest.main()
