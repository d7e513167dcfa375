import random
import unittest
from itertools import product

from heldalways import webs
from heldalways.errors import InvalidValues, InvalidWeb, Refused
from heldalways.webs import Web
from helping import NAMES, STATES, great_web, keeps, random_web
from odd import ODD, STRANGE, resized, spoiled, told

SIX = NAMES
EIGHT = STATES
RULES = (("rise", 1, 2, -5), ("fall", 0, 1, 3), ("now", 2, 0, 10 ** 6))
MOVES = (("go", 0, 1, RULES), ("go", 1, 0, ()), ("stay", 1, 1, (("now", 1, 1, -10 ** 6),)))


def two(moves=MOVES):
    return Web(("x", "y"), ("off", "on"), moves)


class Checked(unittest.TestCase):
    def refused(self, word, call, *told_values):
        with self.assertRaises(Refused) as caught:
            call(*told_values)
        self.assertEqual(caught.exception.word, word)

    def wrong_web(self, at, *parts):
        with self.assertRaises(InvalidWeb, msg=told(parts)) as caught:
            Web(*parts)
        self.assertEqual(caught.exception.at, at, told(parts))


class Point6Class(Checked):
    def test_attributes(self):
        web = Web(quantities=("x", "y"), states=("off", "on"), moves=MOVES)
        self.assertEqual((web.quantities, web.states, web.moves), (("x", "y"), ("off", "on"), MOVES))

    def test_bounds_that_are_kept(self):
        full = ("m", 7, 7, (("rise", 6, 6, 10 ** 6),) * 30)
        web = Web(SIX, EIGHT, (full,) * 40)
        self.assertEqual(len(web.moves), 40)
        Web((), ("a",), ())
        Web(("abcdef",), ("zzzzzz",), (("zzzzzz", 0, 0, (("now", 0, 0, -10 ** 6),)),))
        Web(("a", "aa", "ab", "b"), ("a", "b"), ())
        Web(("x",), ("x",), (("x", 0, 0, ()),))

    def test_wrong_quantities(self):
        for names in (("b", "a"), ("a", "a"), ("abcdefg",), ("",), ("A",), ("a1",), ("a ",), ("a", 1),
                      SIX + ("g",), ["a"], "a", ("\u00e9",), ("a", "c", "b"), (b"a",)):
            self.wrong_web(-3, names, ("a",), ())
        for value in STRANGE + [None, 0, "a", "", (0,), (None,)]:
            self.wrong_web(-3, value, ("a",), ())
            self.wrong_web(-3, ("a", value), ("a",), ())
            self.wrong_web(-3, (value, "A"), ("a",), ())
            self.wrong_web(-3, ("b", value), value, value)

    def test_wrong_states(self):
        for names in ((), ("b", "a"), ("a", "a"), ("abcdefg",), EIGHT + ("x",), ["a"], "a", ("a", 1)):
            self.wrong_web(-2, ("a",), names, ())
        for value in STRANGE + [None, 0, "a", "", (0,), (None,)]:
            self.wrong_web(-2, ("a",), value, value)
            self.wrong_web(-2, ("a",), ("a", value), value)

    def test_wrong_moves(self):
        move = ("m", 0, 0, ())
        self.wrong_web(-1, ("a",), ("a",), (move,) * 41)
        self.wrong_web(-1, ("a",), ("a",), [move])
        self.wrong_web(-1, ("a",), ("a",), ("m",) * 41)
        for value in STRANGE + [None, 0, "a", ""]:
            self.wrong_web(-1, ("a",), ("a",), value)

    def test_wrong_move(self):
        good = ("m", 0, 1, (("rise", 0, 2, 0),))
        for wrong in (
                ("m", 0, 2, ()), ("m", 2, 0, ()), ("m", -1, 0, ()), ("m", 0, -1, ()), ("", 0, 0, ()),
                ("mmmmmmm", 0, 0, ()), ("M", 0, 0, ()), ("m", 0, 0), ("m", 0, 0, (), ()), ("m", 0, 0, []),
                ["m", 0, 0, ()], ("m", True, 0, ()), ("m", 0, False, ()), ("m", 0.0, 0, ()),
                ("m", 0, 0, (("rise", 0, 0, 0),) * 31), ("m", 0, 0, (("rise", 3, 0, 0),)),
                ("m", 0, 0, (("rise", 0, 3, 0),)), ("m", 0, 0, (("rise", -1, 0, 0),)),
                ("m", 0, 0, (("rise", 0, -1, 0),)), ("m", 0, 0, (("up", 0, 0, 0),)),
                ("m", 0, 0, (("rise", 0, 0, 10 ** 6 + 1),)), ("m", 0, 0, (("rise", 0, 0, -10 ** 6 - 1),)),
                ("m", 0, 0, (("rise", 0, 0),)), ("m", 0, 0, (("rise", 0, 0, 0, 0),)),
                ("m", 0, 0, (["rise", 0, 0, 0],)), ("m", 0, 0, (("rise", True, 0, 0),)),
                ("m", 0, 0, (("rise", 0, 0, True),)), ("m", 0, 0, (("rise", 0, 0, None),)),
                ("m", 0, 0, (("now", 0, 0, 0), ("rises", 0, 0, 0)))):
            self.wrong_web(0, ("x", "y"), ("off", "on"), (wrong,))
            self.wrong_web(2, ("x", "y"), ("off", "on"), (good, good, wrong, good))
            self.wrong_web(1, ("x", "y"), ("off", "on"), (good, wrong, wrong, 0))

    def test_moves_spoiled_anywhere(self):
        move = ("m", 0, 1, (("rise", 1, 2, -5), ("now", 0, 1, 3)))
        good = ("m", 0, 0, ())
        for wrong in [*spoiled(move, STRANGE + [None]), *resized(move)]:
            if told(wrong) != told(("m", 0, 1, move[3][:1])):
                self.wrong_web(1, ("x", "y"), ("off", "on"), (good, wrong))

    def test_wrong_things_in_order(self):
        wrong = [("b", "a"), (), (None,) * 41]
        self.wrong_web(-3, *wrong)
        self.wrong_web(-2, ("a",), wrong[1], wrong[2])
        self.wrong_web(-1, ("a",), ("a",), wrong[2])
        self.wrong_web(0, ("a",), ("a",), (None, ["m"]))

    def test_equality(self):
        self.assertTrue(two() == two())
        self.assertFalse(two() != two())
        self.assertFalse(two() == two(MOVES[:2]))
        self.assertFalse(two() == Web(("x", "z"), ("off", "on"), MOVES))
        self.assertFalse(two() == Web(("x", "y"), ("off", "om"), MOVES[:0]))
        self.assertFalse(two(()) == Web(("x", "y"), ("off", "zero"), ()))
        for value in STRANGE + [None, 0, "a", (("x", "y"), ("off", "on"), MOVES)]:
            if told(value) not in ("Yes", "Loud"):
                self.assertFalse(two() == value)
                self.assertTrue(two() != value)


class Point6Functions(Checked):
    def test_numbers(self):
        web = two()
        self.assertEqual([webs.quantity_number(web, name) for name in ("x", "y")], [1, 2])
        self.assertEqual([webs.state_number(web, name) for name in ("off", "on")], [0, 1])
        self.assertEqual(webs.quantity_number(web=web, name="y"), 2)
        for value in ODD + ["off", "X", "xy", " x", ("x",)]:
            self.refused("quantity", webs.quantity_number, web, value)
        for value in ODD + ["x", "of", ("off",)]:
            self.refused("state", webs.state_number, web, value)
        self.refused("quantity", webs.quantity_number, Web((), ("a",), ()), "a")

    def test_moves(self):
        web = two()
        self.assertEqual(webs.moves_from(web, 0), (0,))
        self.assertEqual(webs.moves_from(web, 1), (1, 2))
        self.assertEqual(webs.moves_to(web, 0), (1,))
        self.assertEqual(webs.moves_to(web, 1), (0, 2))
        self.assertEqual(webs.moves_named(web, "go"), (0, 1))
        self.assertEqual(webs.moves_named(web, "stay"), (2,))
        self.assertEqual(webs.moves_named(web, "none"), ())
        self.assertEqual(webs.moves_from(two(()), 0), ())

    def test_reached(self):
        moves = tuple([("m", start, end, ()) for start, end in ((3, 1), (1, 0), (0, 3), (2, 3), (4, 4), (5, 2))])
        web = Web((), EIGHT, moves)
        found = [webs.reached(web, state) for state in range(8)]
        self.assertEqual(found, [(0, 1, 3), (0, 1, 3), (0, 1, 2, 3), (0, 1, 3), (4,), (0, 1, 2, 3, 5), (6,), (7,)])

    def test_reached_by_trial(self):
        draw = random.Random(3)
        for _ in range(60):
            web = random_web(draw, 0, 6, draw.randrange(9), 0, 0, 0)
            for state in range(6):
                found = {state}
                for _ in range(6):
                    found |= {move[2] for move in web.moves if move[1] in found}
                self.assertEqual(webs.reached(web, state), tuple(sorted(found)))


class Point7(Checked):
    def test_plain_rules(self):
        for rule, plain in (
                (("now", 2, 2, 5), ("now", 0, 0, 5)), (("now", 0, 0, -5), ("now", 0, 0, -5)),
                (("rise", 0, 0, 5), ("now", 0, 0, 5)), (("fall", 0, 0, 5), ("now", 0, 0, 5)),
                (("rise", 0, 2, 5), ("now", 0, 2, 5)), (("fall", 0, 2, 5), ("now", 2, 0, 5)),
                (("rise", 2, 0, 5), ("rise", 2, 0, 5)), (("fall", 2, 0, 5), ("fall", 2, 0, 5)),
                (("rise", 1, 1, 5), ("rise", 1, 1, 5)), (("fall", 1, 1, 5), ("fall", 1, 1, 5)),
                (("now", 0, 2, 5), ("now", 0, 2, 5)), (("now", 2, 0, 5), ("now", 2, 0, 5)),
                (("rise", 1, 2, 5), ("rise", 1, 2, 5)), (("now", 2, 1, 5), ("now", 2, 1, 5))):
            self.assertEqual(webs.plain_rule(rule), plain)
            self.assertEqual(webs.plain_rule(plain), plain)

    def test_example(self):
        rules = (("rise", 1, 1, 1), ("now", 1, 0, -5), ("fall", 0, 1, -4), ("rise", 1, 1, 2))
        self.assertEqual(webs.sharp_rules(rules), (("now", 1, 0, -4), ("rise", 1, 1, 2)))

    def test_sharp_rules(self):
        self.assertEqual(webs.sharp_rules(()), ())
        self.assertEqual(webs.sharp_rules((("now", 1, 1, 0),)), ())
        self.assertEqual(webs.sharp_rules((("rise", 0, 0, -1),)), ())
        self.assertEqual(webs.sharp_rules((("fall", 0, 0, 1), ("now", 3, 3, 2))), (("now", 0, 0, 2),))
        self.assertEqual(webs.sharp_rules((("rise", 2, 1, -3), ("fall", 2, 1, 4), ("rise", 1, 2, 0), ("fall", 1, 2, 9))),
                         (("fall", 1, 2, 9), ("fall", 2, 1, 4), ("rise", 1, 2, 0), ("rise", 2, 1, -3)))
        self.assertEqual(webs.sharp_rules((("rise", 1, 0, 3), ("rise", 1, 0, 5), ("rise", 1, 0, 4))),
                         (("rise", 1, 0, 5),))

    def test_the_same_moves_are_let(self):
        draw = random.Random(5)
        span = list(product(range(-2, 3), repeat=2))
        for _ in range(60):
            web = random_web(draw, 2, 2, 2, 5, -3, 3)
            sharp = webs.sharpest(web)
            self.assertEqual((sharp.quantities, sharp.states), (web.quantities, web.states))
            for move, other in zip(web.moves, sharp.moves):
                self.assertEqual(other, (*move[:3], webs.sharp_rules(move[3])))
                for old in span:
                    for new in span:
                        self.assertEqual(keeps(move[3], old, new), keeps(other[3], old, new))

    def test_great(self):
        sharp = webs.sharpest(great_web(random.Random(6), -10 ** 6, 10 ** 6))
        self.assertEqual(len(sharp.moves), 40)
        for move in sharp.moves:
            self.assertEqual(move[3], tuple(sorted(set(move[3]))))
            self.assertEqual(len({rule[:3] for rule in move[3]}), len(move[3]))


class Point8(Checked):
    def test_without_moves(self):
        web = two()
        self.assertEqual(webs.without_moves(web, ()), web)
        self.assertEqual(webs.without_moves(web, (0, 2)), two(MOVES[1:2]))
        self.assertEqual(webs.without_moves(web, (0, 1, 2)), two(()))
        self.assertEqual(web.moves, MOVES)

    def test_with_move(self):
        move = ("new", 1, 0, (("fall", 2, 1, 4),))
        self.assertEqual(webs.with_move(two(), move), two((*MOVES, move)))
        almost = two((MOVES[1],) * 39)
        full = webs.with_move(almost, move)
        self.assertEqual(full.moves[39], move)
        self.refused("size", webs.with_move, full, move)
        self.refused("move", webs.with_move, full, None)
        for value in spoiled(move, STRANGE + [None]):
            self.refused("move", webs.with_move, two(), value)
        for value in (("new", 2, 0, ()), ("new", 0, 0, (("now", 3, 0, 0),)), ("new", 0, 0, (("now", 0, 0, 0),) * 31),
                      ("sevenxy", 0, 0, ()), ("new", 0, 0, (("now", 0, 0, 10 ** 6 + 1),))):
            self.refused("move", webs.with_move, two(), value)
        self.assertEqual(len(webs.with_move(two(), ("new", 0, 0, (("now", 0, 0, 0),) * 30)).moves), 4)

    def test_renamed_web(self):
        web = Web(("a", "b", "c"), ("p", "q"), (("m", 0, 1, (("rise", 1, 3, 5), ("now", 0, 2, 1))), ("n", 1, 1, ())))
        renamed, places, states = webs.renamed_web(web, ("z", "b", "x"), ("w", "a"))
        self.assertEqual((places, states), ((0, 3, 1, 2), (1, 0)))
        self.assertEqual(renamed, Web(("b", "x", "z"), ("a", "w"), (
            ("m", 1, 0, (("rise", 3, 2, 5), ("now", 0, 1, 1))), ("n", 0, 0, ()))))
        same = webs.renamed_web(web, web.quantities, web.states)
        self.assertEqual(same, (web, (0, 1, 2, 3), (0, 1)))
        self.assertEqual(webs.renamed_web(Web((), ("p",), ()), (), ("k",)), (Web((), ("k",), ()), (0,), (0,)))

    def test_renamed_web_refused(self):
        web = two()
        for value in ODD + [("x",), ("x", "x"), ("x", "y", "z"), ["x", "y"], ("x", "Y"), ("x", None), "xy"]:
            self.refused("quantities", webs.renamed_web, web, value, ("on", "off"))
            self.refused("quantities", webs.renamed_web, web, value, value)
            self.refused("states", webs.renamed_web, web, ("y", "x"), value)
        for value in STRANGE:
            self.refused("quantities", webs.renamed_web, web, ("x", value), ("a", "b"))
            self.refused("states", webs.renamed_web, web, ("x", "y"), (value, "b"))

    def wrong_values(self, at, web, value):
        self.assertIs(webs.are_values(web, value), False, told(value))
        with self.assertRaises(InvalidValues) as caught:
            webs.check_values(web, value)
        self.assertEqual(caught.exception.at, at, told(value))

    def test_values(self):
        web = two()
        for value in ((0, 0), (10 ** 9, -10 ** 9), (-1, 5)):
            self.assertIsNone(webs.check_values(web, value))
            self.assertIs(webs.are_values(web, value), True)
        self.assertIs(webs.are_values(Web((), ("a",), ()), ()), True)
        for value in STRANGE + [None, 0, "ab", (), (0,), (0, 0, 0), [0, 0], (None,), ("a", "b", "c")]:
            self.wrong_values(-1, web, value)
        for value in STRANGE + [None, "a", 10 ** 9 + 1, -10 ** 9 - 1, 10 ** 400, (), (0,), "0"]:
            self.wrong_values(0, web, (value, 0))
            self.wrong_values(1, web, (0, value))
            self.wrong_values(0, web, (value, value))


if __name__ == "__main__":
    unittest.main()
