import random
import unittest
from itertools import product

from heldalways import quick
from heldalways.attacks import Heavy, March, Surge, is_attack, most_moves
from heldalways.court import holds_ever
from heldalways.errors import InvalidNumber
from heldalways.judgment import way_between
from heldalways.plays import attack_behind, attack_move, attacked_run
from heldalways.pumps import Pump, Ring
from heldalways.steps import first_break, is_let
from heldalways.tours import is_held_for
from heldalways.webs import Web
from helping import NAMES, STATES, drifting_web, great_web, random_web
from odd import ODD, told
from test_pumps import DAY, DAYS, TANK
from test_settle import some_webs
from test_tables import TANK as CALM


class Point50(unittest.TestCase):
    def test_small(self):
        self.assertIsNone(quick.attack_on(CALM, 1, (5,)))
        attack = quick.attack_on(CALM, 1, (6,))
        self.assertIsInstance(attack, Heavy)
        self.assertIs(is_attack(CALM, 1, (6,), attack), True)
        for level in (-10 ** 9, 0, 3, 10 ** 9):
            attack = quick.attack_on(TANK, 0, (level,))
            self.assertIsInstance(attack, March)
            self.assertIs(is_attack(TANK, 0, (level,), attack), True)
        self.assertIsNone(quick.attack_on(Web((), ("a",), ()), 0, ()))
        self.assertIs(is_attack(Web((), ("a",), (("m", 0, 0, (("now", 0, 0, 1),)),)), 0, (),
                                quick.attack_on(Web((), ("a",), (("m", 0, 0, (("now", 0, 0, 1),)),)), 0, ())), True)

    def test_exactly_one(self):
        draw = random.Random(1)
        counts = {}
        for web in some_webs(draw, 200):
            for state in range(len(web.states)):
                for _ in range(3):
                    values = tuple([draw.randint(-5, 5) for _ in web.quantities])
                    attack = quick.attack_on(web, state, values)
                    self.assertEqual(attack is None, holds_ever(web, state, values))
                    kind = type(attack).__name__
                    if isinstance(attack, March):
                        kind += type(attack.paper).__name__
                    counts[kind] = counts.get(kind, 0) + 1
                    if attack is not None:
                        self.assertIs(is_attack(web, state, values, attack), True)
        self.assertEqual(sorted(counts), ["Heavy", "MarchPump", "MarchRing", "NoneType"])
        self.assertGreater(min(counts.values()), 50)

    def test_held_for_every_number_of_moves(self):
        # As far below as one likes: held for so many moves, and not for ever.
        slope = Web(("x",), ("a",), (("m", 0, 0, (("rise", 1, 1, 1), ("now", 1, 0, 0))),))
        attack = quick.attack_on(slope, 0, (-10 ** 6,))
        self.assertIsInstance(attack.paper, Pump)
        self.assertIs(is_held_for(slope, 0, (-10 ** 6,), 500), True)

    def test_great(self):
        draw = random.Random(2)
        for web in (drifting_web(), great_web(draw, -10 ** 6, 10 ** 6), great_web(draw, -5, 0), great_web(draw, -10 ** 6, -999990)):
            for values in ((0,) * 6, (10 ** 9,) * 6, (-10 ** 9, 10 ** 9) * 3):
                attack = quick.attack_on(web, 3, values)
                self.assertEqual(attack is None, holds_ever(web, 3, values))
                self.assertIs(attack is None or is_attack(web, 3, values, attack), True)


class Point51(unittest.TestCase):
    def test_example(self):
        self.assertEqual((quick.fewest_moves(TANK, 0, (3,), 9), quick.fewest_moves(TANK, 0, (0,), 5), most_moves(quick.quick_attack(TANK, 0, (0,), 9))),
                         (3, None, 6))
        rains = Surge((DAY, DAYS), (1, 0), 0, 5)
        self.assertEqual(most_moves(rains), 6)

    def test_errors(self):
        for call in (quick.fewest_moves, quick.quick_attack):
            for value in ODD:
                if told(value) in ("0", "1", "7"):
                    call(TANK, 0, (0,), value)
                else:
                    with self.assertRaises(InvalidNumber, msg=told(value)) as caught:
                        call(TANK, 0, (0,), value)
                    self.assertEqual(caught.exception.word, "most")
            with self.assertRaises(InvalidNumber):
                call(TANK, 0, (9,), 501)
            self.assertIsNone(call(TANK, 0, (9,), 0))
            self.assertIsNone(call(CALM, 1, (5,), 500))

    def test_by_layers(self):
        draw = random.Random(3)
        counts = {}
        for web in some_webs(draw, 150):
            for state in range(len(web.states)):
                values = tuple([draw.randint(-5, 5) for _ in web.quantities])
                held = [is_held_for(web, state, values, many) for many in range(13)]
                least = held.index(False) if False in held else None
                self.assertEqual(quick.fewest_moves(web, state, values, 12), least)
                attack = quick.quick_attack(web, state, values, 12)
                self.assertEqual(attack is None, least is None)
                if least is not None:
                    self.assertIs(is_attack(web, state, values, attack), True)
                    self.assertEqual(most_moves(attack), least)
                    self.assertIsNone(quick.fewest_moves(web, state, values, least - 1))
                    self.assertIsNone(quick.quick_attack(web, state, values, least - 1))
                    self.assertEqual(quick.fewest_moves(web, state, values, least), least)
                    kind = type(attack).__name__ + str(min(least, 3))
                    counts[kind] = counts.get(kind, 0) + 1
        self.assertTrue(len(counts) > 3 and min(counts.values()) > 2, counts)

    def test_no_attack_is_quicker(self):
        # Whoever holds for one move less than told can, whatever the attack picks.
        draw = random.Random(4)
        played = 0
        for web in some_webs(draw, 120):
            values = tuple([draw.randint(-4, 4) for _ in web.quantities])
            least = quick.fewest_moves(web, 0, values, 12)
            if least is None or least < 2:
                continue
            attack, old, state, said = quick.quick_attack(web, 0, values, 12), values, 0, []
            for left in range(least - 2, -1, -1):
                move = attack_move(web, state, old, attack)
                end = web.moves[move][2]
                span = range(-9, 10)
                good = [new for new in product(span, repeat=len(old)) if is_let(web, move, old, new) and is_held_for(web, end, new, left)]
                if not good:
                    break
                attack = attack_behind(web, state, old, attack, good[0])
                said.append(good[0])
                old, state = good[0], end
            if len(said) == least - 1:
                run = attacked_run(web, (0, values), quick.quick_attack(web, 0, values, 12), (*said, old))
                self.assertEqual((len(run[1]), first_break(web, run)), (least, least - 1))
                played += 1
        self.assertGreater(played, 15)

    def test_great(self):
        draw = random.Random(5)
        for web in (drifting_web(), great_web(draw, -10 ** 6, 10 ** 6), great_web(draw, -5, 0)):
            for values in ((0,) * 6, (10 ** 9,) * 6):
                least = quick.fewest_moves(web, 3, values, 500)
                attack = quick.quick_attack(web, 3, values, 500)
                self.assertEqual(attack is None, least is None)
                if attack is not None:
                    self.assertEqual((is_attack(web, 3, values, attack), most_moves(attack)), (True, least))
        # A long way up, and a ring at the end of a long way.
        slope = Web(NAMES, STATES, tuple([("m", at, (at + 1) % 8, (("rise", 1, 1, 1), ("now", 1, 0, 0))) for at in range(8)]))
        self.assertEqual(quick.fewest_moves(slope, 0, (-450,) * 6, 500), 451)
        self.assertEqual(most_moves(quick.quick_attack(slope, 0, (-450,) * 6, 500)), 451)
        far = Web((), STATES, tuple([("m", at, at + 1, ()) for at in range(7)] + [("n", 7, 7, (("now", 0, 0, 1),))]))
        attack = quick.quick_attack(far, 0, (), 500)
        self.assertEqual((most_moves(attack), attack.script, isinstance(attack.paper, Ring)), (8, (*range(7), 7), True))
        self.assertEqual(way_between(far, 0, 7), tuple(range(7)))


if __name__ == "__main__":
    unittest.main()
