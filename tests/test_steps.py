import random
import unittest
from itertools import product

from heldalways import steps
from heldalways.errors import InvalidRun
from heldalways.webs import Web
from helping import great_web, keeps, random_web
from odd import ODD, STRANGE, resized, spoiled, told

RULES = (("rise", 1, 2, 1), ("fall", 2, 1, 0), ("now", 1, 2, -3), ("now", 0, 1, 0), ("rise", 1, 0, -9))
WEB = Web(("x", "y"), ("off", "on"), (("go", 0, 1, RULES), ("back", 1, 0, ()), ("stay", 1, 1, (("now", 1, 2, 0),))))
RUN = ((0, (3, 4)), ((0, (2, 5)), (2, (5, 5)), (1, (9, -9))))
BARE = Web((), ("a",), (("m", 0, 0, ()),))


class Point15(unittest.TestCase):
    def test_each_kind(self):
        def kept(rule, old, new):
            web = Web(("x", "y"), ("a",), (("m", 0, 0, (rule,)),))
            self.assertEqual(steps.broken_rules(web, 0, old, new), () if steps.is_let(web, 0, old, new) else (0,))
            return steps.is_let(web, 0, old, new)
        # The new value of j less the old one of i; the old one of i less the new one of j; new less new.
        self.assertIs(kept(("rise", 1, 2, 4), (3, 99), (-99, 7)), True)
        self.assertIs(kept(("rise", 1, 2, 4), (3, 99), (99, 6)), False)
        self.assertIs(kept(("fall", 1, 2, 4), (7, -99), (-99, 3)), True)
        self.assertIs(kept(("fall", 1, 2, 4), (7, 99), (99, 4)), False)
        self.assertIs(kept(("now", 1, 2, 4), (99, -99), (3, 7)), True)
        self.assertIs(kept(("now", 1, 2, 4), (-99, 99), (3, 6)), False)
        self.assertIs(kept(("rise", 0, 1, 4), (9, 9), (4, 0)), True)
        self.assertIs(kept(("rise", 0, 1, 4), (9, 9), (3, 0)), False)
        self.assertIs(kept(("rise", 1, 0, 4), (-4, 9), (9, 9)), True)
        self.assertIs(kept(("rise", 1, 0, 4), (-3, 9), (9, 9)), False)
        self.assertIs(kept(("fall", 1, 0, 4), (4, 0), (0, 0)), True)
        self.assertIs(kept(("fall", 1, 0, 4), (3, 9), (9, 9)), False)
        self.assertIs(kept(("fall", 0, 1, 4), (0, 0), (-4, 0)), True)
        self.assertIs(kept(("fall", 0, 1, 4), (9, 9), (-3, 0)), False)
        self.assertIs(kept(("now", 1, 0, -4), (9, 9), (4, 9)), True)
        self.assertIs(kept(("now", 1, 0, -4), (0, 0), (5, 0)), False)
        self.assertIs(kept(("now", 1, 1, 0), (0, 0), (5, 0)), True)
        self.assertIs(kept(("now", 1, 1, 1), (0, 0), (5, 0)), False)

    def test_broken_rules(self):
        self.assertEqual(steps.broken_rules(WEB, 0, (3, 4), (2, 4)), ())
        self.assertEqual(steps.broken_rules(WEB, 0, (3, 4), (5, 1)), (0, 1, 2))
        self.assertEqual(steps.broken_rules(WEB, 0, (10, 4), (-1, 11)), (3, 4))
        self.assertEqual(steps.broken_rules(WEB, 1, (0, 0), (10 ** 50, -10 ** 50)), ())
        self.assertEqual(steps.broken_rules(BARE, 0, (), ()), ())

    def test_by_trial(self):
        draw = random.Random(1)
        span = list(product(range(-2, 3), repeat=2))
        for _ in range(40):
            web = random_web(draw, 2, 1, 1, 5, -3, 3)
            rules = web.moves[0][3]
            for old, new in product(span, span):
                broken = tuple([at for at in range(len(rules)) if not keeps(rules[at:at + 1], old, new)])
                self.assertEqual(steps.broken_rules(web, 0, old, new), broken)
                self.assertIs(steps.is_let(web, 0, old, new), broken == ())

    def test_great(self):
        web = great_web(random.Random(2), -10 ** 6, 10 ** 6)
        self.assertEqual(len(steps.broken_rules(web, 39, (-10 ** 60,) * 6, (10 ** 60,) * 6)) + len(
            [rule for rule in web.moves[39][3] if keeps((rule,), (-10 ** 60,) * 6, (10 ** 60,) * 6)]), 30)

    def test_positions(self):
        for value in ((0, (1, 2)), (1, (10 ** 9, -10 ** 9))):
            self.assertIs(steps.is_position(WEB, value), True)
        for value in ((2, (1, 2)), (-1, (1, 2)), (0, (1, 2, 3)), (0, (10 ** 9 + 1, 0)), (0, (1, 2), 0), (0,), [0, (1, 2)],
                      (0, [1, 2]), (False, (1, 2)), (0, (True, 2)), (0, 1)):
            self.assertIs(steps.is_position(WEB, value), False, told(value))
        for value in [*ODD, *spoiled((0, (1, 2)), STRANGE + [None, "a", 10 ** 400])]:
            self.assertIs(steps.is_position(WEB, value), False, told(value))
        self.assertIs(steps.is_position(BARE, (0, ())), True)

    def test_scripts(self):
        for value in ((), (0,), (0, 1), (0, 2, 2, 1, 0), (0,) + (2,) * 99):
            self.assertIs(steps.is_script(WEB, 0, value), True)
        self.assertIs(steps.is_script(WEB, 1, (2, 1)), True)
        for value in ((1,), (0, 0), (0, 1, 1), (3,), (-1,), (0,) + (2,) * 100, [0], (False,), (0, True), (0, None), 0, None):
            self.assertIs(steps.is_script(WEB, 0, value), False, told(value))
        for value in [*STRANGE, *spoiled((0, 2), STRANGE + [None, "a", 10 ** 400])]:
            self.assertIs(steps.is_script(WEB, 0, value), False, told(value))

    def test_end_state(self):
        self.assertEqual([steps.end_state(WEB, 0, script) for script in ((), (0,), (0, 1), (0, 2, 2))], [0, 1, 0, 1])
        self.assertEqual(steps.end_state(WEB, 1, ()), 1)


class Point16(unittest.TestCase):
    def wrong(self, at, value, web=WEB):
        self.assertIs(steps.is_run(web, value), False, told(value))
        self.assertIs(steps.is_run(web, value, False), False, told(value))
        with self.assertRaises(InvalidRun, msg=told(value)) as caught:
            steps.check_run(web, value)
        self.assertEqual(caught.exception.at, at, told(value))

    def test_right(self):
        for run in (RUN, ((1, (0, 0)), ()), ((0, (3, 4)), ((0, (-9, 9)),) + ((2, (10 ** 9, 0)),) * 99)):
            self.assertIsNone(steps.check_run(WEB, run))
            self.assertIs(steps.is_run(WEB, run, False), True)
        self.assertIs(steps.is_run(BARE, ((0, ()), ((0, ()),) * 100)), True)

    def test_no_pair(self):
        begin = (0, (3, 4))
        for value in ((begin,), (begin, (), ()), [begin, ()], (begin, []), (begin, ((1, (0, 0)),) * 101), (begin, None),
                      (None, None), (), (begin, 0)):
            self.wrong(-2, value)
        for value in STRANGE + [None, 0, "ab"]:
            self.wrong(-2, value)
            self.wrong(-2, (begin, value))
            self.wrong(-2, (value, value))

    def test_no_position(self):
        for value in STRANGE + [None, 0, "ab", (2, (0, 0)), (0, (0,)), (0, (0, 10 ** 9 + 1)), (0, (0, 0), 0)]:
            self.wrong(-1, (value, ()))
            self.wrong(-1, (value, (None, value)))

    def test_no_step(self):
        begin, good = RUN[0], RUN[1][:2]
        for value in STRANGE + [None, 0, "ab", (), (2,), (0, (0, 0)), (3, (0, 0)), (-1, (0, 0)), (2, (0,)), (2, (0, 0, 0)),
                                (2, (10 ** 9 + 1, 0)), (2, (0, -10 ** 9 - 1)), (2, (0, 0), 0), [2, (0, 0)], (2, [0, 0])]:
            self.wrong(2, (begin, (*good, value)))
            self.wrong(2, (begin, (*good, value, None)))
        for value in spoiled((2, (0, 0)), STRANGE + [None, "a", 10 ** 400]):
            self.wrong(1, (begin, (RUN[1][0], value, (2, (1, 1)))))
        self.wrong(0, ((1, (0, 0)), ((0, (0, 0)), None)))
        self.wrong(99, (begin, (RUN[1][0],) + ((2, (0, 0)),) * 98 + ((0, (0, 0)),)))

    def test_kept(self):
        self.assertIsNone(steps.first_break(WEB, RUN))
        self.assertEqual(steps.first_break(WEB, (RUN[0], ((0, (2, 3)), *RUN[1][1:]))), 0)
        broken = ((1, (3, 4)), ((2, (5, 5)), (2, (5, 4)), (2, (0, -1))))
        self.assertEqual(steps.first_break(WEB, broken), 1)
        kept = ((0, (3, 4)), ((0, (2, 4)), (2, (5, 5)), (1, (9, -9))))
        self.assertIsNone(steps.first_break(WEB, kept))
        self.assertIsNone(steps.first_break(WEB, ((0, (0, 0)), ())))
        self.assertIs(steps.is_run(WEB, kept), True)
        self.assertIs(steps.is_run(WEB, broken), False)
        self.assertIs(steps.is_run(WEB, broken, True), False)
        self.assertIs(steps.is_run(WEB, broken, kept=False), True)
        self.assertIs(steps.is_run(WEB, value=RUN, kept=False), True)
        # A rule about old values looks at the step before.
        climb = Web(("x",), ("a",), (("m", 0, 0, (("rise", 1, 1, 1),)),))
        self.assertEqual(steps.first_break(climb, ((0, (0,)), ((0, (1,)), (0, (2,)), (0, (2,)), (0, (9,))))), 2)

    def test_parts(self):
        self.assertEqual(steps.positions_of(WEB, RUN), ((0, (3, 4)), (1, (2, 5)), (1, (5, 5)), (0, (9, -9))))
        self.assertEqual(steps.script_of(RUN), (0, 2, 1))
        self.assertEqual(steps.said_in(RUN), ((2, 5), (5, 5), (9, -9)))
        self.assertEqual(steps.run_by(RUN[0], (0, 2, 1), steps.said_in(RUN)), RUN)
        empty = ((1, (0, 0)), ())
        self.assertEqual(steps.positions_of(WEB, empty), ((1, (0, 0)),))
        self.assertEqual((steps.script_of(empty), steps.said_in(empty)), ((), ()))
        self.assertEqual(steps.run_by((1, (0, 0)), (), ()), empty)


if __name__ == "__main__":
    unittest.main()
