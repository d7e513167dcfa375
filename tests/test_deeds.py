import random
import unittest
from itertools import product

from heldalways import deeds
from heldalways.court import holds_ever
from heldalways.sheets import Sheet, is_sheet
from heldalways.steps import is_let
from heldalways.webs import Web
from helping import NAMES, STATES, great_web, random_rule, random_web
from odd import ODD, STRANGE, resized, spoiled, told

KEEP = (("now", 0, 1, 0), ("now", 1, 0, -5))
POUR = Web(("level",), ("wet",), (("pour", 0, 0, KEEP + (("rise", 1, 1, 0),)),))
SHEET = Sheet(POUR, 0, (2,))
TWO = Web(("b", "d"), ("m", "p"), (("go", 0, 1, (("rise", 1, 2, -3), ("now", 0, 1, -9), ("fall", 2, 0, -9))), ("stay", 1, 1, (("now", 2, 1, -4),))))
PAIR = Sheet(TWO, 0, (1, 2))
FULL = Web(NAMES, STATES, tuple([("m", at % 8, 0, (("now", 0, 0, 0),) * 30) for at in range(40)]))


def open_sheets(draw, wanted):
    while wanted:
        web = random_web(draw, draw.choice((0, 1, 2)), draw.choice((1, 2)), draw.choice((1, 2, 3)), 3, -3, 1)
        sheet = Sheet(web, draw.randrange(len(web.states)), tuple([draw.randint(-3, 3) for _ in web.quantities]))
        if is_sheet(sheet):
            wanted -= 1
            yield sheet


def all_deeds(draw, sheet):
    """Deeds of all words, some of which cannot be done."""
    web = sheet.web
    many = len(web.quantities)
    found = [("state", "new"), ("quantity", "new", draw.randint(-9, 9))]
    found += [("leave", quantity) for quantity in range(many + 2)]
    for move in range(len(web.moves) + 1):
        found += [("move", move, values) for values in product((-3, 0, 2), repeat=many)]
        found += [("rule", move, random_rule(draw, many, -3, 2)) for _ in range(4)]
        found += [("ease", move, number) for number in range(4)]
        found += [("bar", move)]
    for _ in range(4):
        rules = tuple([random_rule(draw, many, -3, 2) for _ in range(2)])
        found.append(("add", ("x", draw.randrange(len(web.states)), draw.randrange(len(web.states)), rules)))
    return found


class Point76(unittest.TestCase):
    def can(self, sheet, deed, expected=True):
        self.assertIs(deeds.is_deed(sheet, deed), expected, told(deed))

    def test_moves(self):
        for move, values, right in ((0, (2,), True), (0, (5,), True), (0, (6,), False), (0, (1,), False), (1, (2,), False), (-1, (2,), False),
                                    (0, (), False), (0, [2], False), (0, (True,), False), (False, (2,), False)):
            self.can(SHEET, ("move", move, values), right)
        self.assertEqual(deeds.sheet_after(SHEET, ("move", 0, (4,))), Sheet(POUR, 0, (4,)))
        # Rules are kept, but what is said is not held for ever; and moves from another state.
        tight = Web(("x",), ("a", "b"), (("m", 0, 1, ()), ("n", 1, 1, (("rise", 1, 1, 0), ("now", 1, 0, -5)))))
        self.can(Sheet(tight, 0, (0,)), ("move", 0, (5,)))
        self.can(Sheet(tight, 0, (0,)), ("move", 0, (6,)), False)
        self.can(Sheet(tight, 0, (0,)), ("move", 1, (0,)), False)
        self.can(Sheet(tight, 0, (0,)), ("move", 0, (-10 ** 9,)))
        self.can(Sheet(tight, 0, (0,)), ("move", 0, (-10 ** 9 - 1,)), False)
        self.assertEqual(deeds.sheet_after(Sheet(tight, 0, (0,)), ("move", 0, (5,))), Sheet(tight, 1, (5,)))

    def test_rules(self):
        self.can(SHEET, ("rule", 0, ("rise", 1, 1, 0)))
        self.can(SHEET, ("rule", 0, ("rise", 1, 1, 1)), False)
        self.can(SHEET, ("rule", 0, ("now", 0, 1, 5)))
        self.can(SHEET, ("rule", 0, ("now", 0, 1, 6)), False)
        self.can(SHEET, ("rule", 1, ("now", 0, 1, 5)), False)
        self.can(SHEET, ("rule", 0, ("now", 0, 2, 5)), False)
        self.can(SHEET, ("rule", 0, ("now", 0, 1, -10 ** 6 - 1)), False)
        self.can(SHEET, ("rule", 0, ("now", 0, 1, -10 ** 6)))
        behind = deeds.sheet_after(SHEET, ("rule", 0, ("now", 0, 1, 5)))
        self.assertEqual(behind, Sheet(Web(("level",), ("wet",), (("pour", 0, 0, KEEP + (("rise", 1, 1, 0), ("now", 0, 1, 5))),)), 0, (2,)))
        long = Web(("x",), ("a",), (("m", 0, 0, (("now", 0, 1, 0),) * 29),))
        self.can(Sheet(long, 0, (0,)), ("rule", 0, ("now", 0, 1, 1)))
        self.can(deeds.sheet_after(Sheet(long, 0, (0,)), ("rule", 0, ("now", 0, 1, 1))), ("rule", 0, ("now", 0, 1, 1)), False)

    def test_ease_and_bar(self):
        self.can(SHEET, ("ease", 0, 2))
        self.can(SHEET, ("ease", 0, 3), False)
        self.can(SHEET, ("ease", 1, 0), False)
        self.can(SHEET, ("bar", 0))
        self.can(SHEET, ("bar", 1), False)
        self.assertEqual(deeds.sheet_after(SHEET, ("ease", 0, 1)).web.moves, (("pour", 0, 0, (KEEP[0], ("rise", 1, 1, 0))),))
        self.assertEqual(deeds.sheet_after(PAIR, ("bar", 0)), Sheet(Web(TWO.quantities, TWO.states, TWO.moves[1:]), 0, (1, 2)))

    def test_add(self):
        self.can(SHEET, ("add", ("m", 0, 0, ())))
        self.can(SHEET, ("add", ("m", 0, 0, (("rise", 1, 1, 1),))), False)
        self.can(SHEET, ("add", ("m", 0, 1, ())), False)
        self.can(SHEET, ("add", ("M", 0, 0, ())), False)
        self.can(SHEET, ("add", ("m", 0, 0, (("now", 1, 0, 0),) * 31)), False)
        self.assertEqual(deeds.sheet_after(SHEET, ("add", ("m", 0, 0, ()))).web.moves, (*POUR.moves, ("m", 0, 0, ())))
        nearly = Web(NAMES, STATES, FULL.moves[:39])
        self.can(Sheet(nearly, 0, (0,) * 6), ("add", ("m", 0, 0, ())))
        self.can(Sheet(FULL, 0, (0,) * 6), ("add", ("m", 0, 0, ())), False)

    def test_states(self):
        for name, at in (("a", 0), ("n", 1), ("z", 2)):
            self.can(PAIR, ("state", name))
            behind = deeds.sheet_after(PAIR, ("state", name))
            self.assertEqual(behind.web.states, tuple(sorted(["m", "p", name])))
            places = [behind.web.states.index(word) for word in ("m", "p")]
            self.assertEqual(behind.web.moves, (("go", places[0], places[1], TWO.moves[0][3]), ("stay", places[1], places[1], TWO.moves[1][3])))
            self.assertEqual((behind.state, behind.said, behind.web.quantities), (places[0], (1, 2), ("b", "d")))
        for name in ("m", "p", "", "M", "abcdefg", None, 0, ("a",)):
            self.can(PAIR, ("state", name), False)
        # A quantity may have this name.
        self.can(PAIR, ("state", "b"))
        self.can(PAIR, ("quantity", "m", 0))
        self.can(Sheet(FULL, 0, (0,) * 6), ("state", "new"), False)
        self.can(Sheet(Web((), STATES[:7], ()), 0, ()), ("state", "new"))
        later = deeds.sheet_after(Sheet(TWO, 1, (1, 2)), ("state", "a"))
        self.assertEqual((later.state, later.web.states[later.state]), (2, "p"))

    def test_quantities(self):
        for name, moved in (("a", {1: 2, 2: 3}), ("c", {1: 1, 2: 3}), ("e", {1: 1, 2: 2})):
            self.can(PAIR, ("quantity", name, 7))
            behind = deeds.sheet_after(PAIR, ("quantity", name, 7))
            self.assertEqual(behind.web.quantities, tuple(sorted(["b", "d", name])))
            numbers = {0: 0, **moved}
            expected = [(*move[:3], tuple([(kind, numbers[i], numbers[j], weight) for kind, i, j, weight in move[3]])) for move in TWO.moves]
            self.assertEqual(behind.web.moves, tuple(expected))
            values = dict(zip(behind.web.quantities, behind.said))
            self.assertEqual((values, behind.state, behind.web.states), ({"b": 1, "d": 2, name: 7}, 0, ("m", "p")))
        for name, value, right in (("b", 0, False), ("c", 10 ** 9, True), ("c", -10 ** 9, True), ("c", 10 ** 9 + 1, False), ("c", True, False),
                                   ("c", None, False), ("C", 0, False)):
            self.can(PAIR, ("quantity", name, value), right)
        self.can(Sheet(FULL, 0, (0,) * 6), ("quantity", "new", 0), False)

    def test_leave(self):
        for quantity, right in ((0, False), (1, True), (2, True), (3, False), (-1, False), (True, False)):
            self.can(PAIR, ("leave", quantity), right)
        one = deeds.sheet_after(PAIR, ("leave", 1))
        self.assertEqual(one, Sheet(Web(("d",), ("m", "p"), (("go", 0, 1, (("fall", 1, 0, -9),)), ("stay", 1, 1, ()))), 0, (2,)))
        two = deeds.sheet_after(PAIR, ("leave", 2))
        self.assertEqual(two, Sheet(Web(("b",), ("m", "p"), (("go", 0, 1, (("now", 0, 1, -9),)), ("stay", 1, 1, ()))), 0, (1,)))
        self.assertEqual(deeds.sheet_after(two, ("leave", 1)).said, ())
        self.can(Sheet(Web((), ("a",), ()), 0, ()), ("leave", 1), False)

    def test_any_value(self):
        for value in ODD:
            self.can(PAIR, value, False)
            for word in ("move", "rule", "ease", "add", "bar", "state", "quantity", "leave"):
                self.can(SHEET, (word,), False)
                self.can(PAIR, (word, value), (word, told(value)) in (
                    ("bar", "0"), ("bar", "1"), ("leave", "1"), ("state", "'a'"), ("state", "'abc'"), ("state", "'rise'"), ("state", "'now'"),
                    ("add", "('a', 0, 0, ())")))
                self.can(PAIR, (word, value, 0), (word, told(value)) in (
                    ("ease", "0"), ("ease", "1"), ("quantity", "'a'"), ("quantity", "'abc'"), ("quantity", "'rise'"), ("quantity", "'now'")))
                self.can(PAIR, (word, 0, value), (word, told(value)) in (
                    ("ease", "0"), ("ease", "1"), ("move", "(0, 0)"), ("rule", "('now', 0, 0, 0)")))
            self.can(PAIR, (value, 0, 0), False)
        right = [("move", 0, (3, 4)), ("rule", 1, ("rise", 0, 2, -5)), ("ease", 1, 0), ("add", ("m", 1, 0, (("now", 0, 0, 0),))), ("bar", 1),
                 ("state", "a"), ("quantity", "a", 5), ("leave", 2)]
        for deed in right:
            self.can(PAIR, deed)
            for wrong in [*spoiled(deed, STRANGE + [None, "?"]), *resized(deed)]:
                self.can(PAIR, wrong, told(wrong) == told(("add", ("m", 1, 0, ()))))

    def test_by_trial(self):
        draw = random.Random(1)
        done, not_done = {}, {}
        for sheet in open_sheets(draw, 150):
            web = sheet.web
            for deed in all_deeds(draw, sheet):
                word = deed[0]
                there = word in ("state", "quantity", "add") or word == "leave" and 0 < deed[1] <= len(web.quantities) or (
                    word not in ("leave",) and deed[1] < len(web.moves))
                if word == "ease" and there:
                    there = deed[2] < len(web.moves[deed[1]][3])
                if word == "move" and there:
                    there = web.moves[deed[1]][1] == sheet.state and is_let(web, deed[1], sheet.said, deed[2])
                if there:
                    behind = deeds.sheet_after(sheet, deed)
                    self.assertIs(is_sheet(behind), deeds.is_deed(sheet, deed))
                    self.can(sheet, deed, holds_ever(behind.web, behind.state, behind.said))
                    if word in ("ease", "bar", "state", "quantity", "leave"):
                        self.can(sheet, deed)
                else:
                    self.can(sheet, deed, False)
                counts = done if deeds.is_deed(sheet, deed) else not_done
                counts[word] = counts.get(word, 0) + 1
        self.assertEqual(sorted(done), ["add", "bar", "ease", "leave", "move", "quantity", "rule", "state"])
        self.assertTrue(min([not_done[word] for word in ("move", "rule", "add", "ease", "bar", "leave")]) > 30, not_done)

    def test_all(self):
        draw = random.Random(2)
        self.assertEqual(deeds.sheet_after_all(SHEET, ()), SHEET)
        for sheet in open_sheets(draw, 30):
            done, present = [], sheet
            for _ in range(8):
                can = [deed for deed in all_deeds(draw, present) if deeds.is_deed(present, deed)]
                can = [deed for deed in can if deed[0] != "state" or "new" not in present.web.states]
                done.append(draw.choice(can))
                present = deeds.sheet_after(present, done[-1])
                self.assertIs(is_sheet(present), True)
            self.assertEqual(deeds.sheet_after_all(sheet, tuple(done)), present)

    def test_great(self):
        draw = random.Random(3)
        web = great_web(draw, -5, 0)
        less = Web(web.quantities, web.states, tuple([(*move[:3], move[3][:29]) for move in web.moves[:39]]))
        sheet = Sheet(less, 0, (0,) * 6)
        self.assertIs(is_sheet(sheet), holds_ever(less, 0, (0,) * 6))
        free = Web(NAMES, STATES, tuple([(*move[:3], ()) for move in less.moves]))
        open_one = Sheet(free, 0, (10 ** 9,) * 6)
        for deed in (("move", 0, (-10 ** 9,) * 6), ("rule", 38, ("rise", 6, 6, 1)), ("add", web.moves[39]), ("leave", 6), ("bar", 38)):
            self.can(open_one, deed, is_sheet(deeds.sheet_after(open_one, deed)))


if __name__ == "__main__":
    unittest.main()
